import PyProof.Rows.All
import Wide.All
import OpenK.AllK
import Wide.FinOn
import HandS.ForMost
import HandS.Gcd
import HandS.Wide
import HandS.Defaults
import HandS.IsInst
import HandS.Deep
import PyProof.ReprReads
import HandS.TupAny
import HandS.TupMul
import HandS.Conv
import PyProof.Rows.LemmasIntBool
import PyProof.ReprRoads
import PyProof.StrLawsRepr
import PyProof.Rows.RegStrFacts
import HandS.Style
import PyProof.Rows.StrMul
import HandS.Dict
import KE.KDictPairs
import HandS.More
import PyProof.Rows.ReprOcc
import HandS.NoneIn
import HandS.Text
import HandS.TupLe
import HandS.CallLocal
import HandS.Zip
import KE.SortData
import HandS.RaiseMore
import HandS.DictTup
import KE.GoesEnum
import PyProof.P3In
import HandS.WordsDict
import HandS.SetFor
import HandS.Strs
import HandS.MakeKwOnly
import KE.KTupSum
import HandS.SortKw
import KE.KMinKey
import HandS.SetBool
import HandS.Iter
import PySem.Challenge.RW_tenanthall_k57_whole_costs_parted
set_option Elab.async false
set_option linter.all false
set_option maxRecDepth 100000
namespace VG
open PySem PySem.Spec PyProof.Rows L2

/-- nothing is being shown around -/
def Still (A : Around) : Prop := A.guards = some []
theorem Still.deep {A : Around} (g : Still A) (e : Env) : Still (A.deeper e) := g

section
variable {P : Program} {w : World} {K : PySem.W.Frag} {mg : Str → Option Value} {base : Heap}

/-- the promise of the def at f, called where nothing is being shown -/
structure GOk (P : Program) (w : World) (K : PySem.W.Frag) (mg : Str → Option Value) (base : Heap) (CX : CXT) (k : Nat) (f : Addr) (fd : FuncData) (ps : List Str) (sp : Sp) : Prop where
  len : ∀ vs H Q E, sp vs H Q E → vs.length = ps.length
  go : ∀ (A : Around), Room k A → Still A → ∀ (outer : List Env) (s : Shared) (H : Hp),
    Env0 P w K mg base A outer s H → ∀ (args : Args) (us : List Value) (vs : List V) (Q : VK) (E : XK),
    BindsTo s fd args (ps.zip us) → Vals vs us → sp vs H Q E →
    codeAny (model P w) A (.call (.ref f) args) (CR CX outer P w H s Q E) s

theorem GOk.mono {CX : CXT} {j k : Nat} {f : Addr} {fd : FuncData} {ps : List Str} {sp : Sp}
    (F : GOk P w K mg base CX j f fd ps sp) (h : j ≤ k) : GOk P w K mg base CX k f fd ps sp :=
  ⟨F.len, fun A hr => F.go A (hr.mono h)⟩

/-- from the body -/
theorem gok_of {CX : CXT} {k : Nat} {f : Addr} {nm qual : Str} {pr : Arguments} {body : List Stmt} {sc : Scope}
    {dV kV doc pm cdv ct oc : Value} {an od : Option Addr} {osl : Array (Option Value)} {N ps : List Str} {sp : Sp}
    (lk : K.lookup f = some ⟨oc, od, .func (PySem.W.fnOf nm qual pr body sc dV kV doc pm an cdv ct), osl⟩)
    (cd : PySem.W.codeIn K cdv qual = true) (S : FnScope N ps sc) (len : ∀ vs H Q E, sp vs H Q E → vs.length = ps.length)
    (hb : ∀ (A : Around), Still A → ∀ (outer : List Env) (s : Shared) (H : Hp) (vs : List V) (Q : VK) (E : XK),
      Room k (A.deeper (envOfC qual sc s.heap.objs.size f cdv)) → sp vs H Q E →
      ∃ t, PSs (cxOf CX P w K mg base N qual sc f cdv A outer s H E) body t ∧
        t ⟨fun _ H' => Q .non H', Q, fun _ _ => False, fun _ _ => False⟩ (start N vs) H) :
    GOk P w K mg base CX (k + 1) f (PySem.W.fnOf nm qual pr body sc dV kV doc pm an cdv ct) ps sp := by
  refine ⟨len, fun A hr gd outer s H e0 args us vs Q E bt rv ok => ?_⟩
  have lim := e0.mod.nolimit.keeps fun b o e => (e0.bs b o e).1
  have kin := e0.mod.kin.keeps fun b o e => (e0.bs b o e).1
  refine codeAny_call_function hr.depth (kin _ _ lk) rfl S.co S.gen rfl (PySem.W.codeRec_of kin cd) (bt _ _ _ _ ?_)
  refine wpAny_newFunctionEnv_cells S.kind ?_ ?_
  · intro y hy
    have par := S.par y.1 (List.of_mem_zip (a := y.1) (b := y.2) hy).1
    exact par.imp id fun z => ⟨z, PySem.W.cellsFrom_some _ _ _ (.inl z)⟩
  · intro env eq s1 ic
    subst eq
    refine ⟨lim.keeps ic.toInCall.keep, codeAny_func ?_⟩
    obtain ⟨t, ht, hq⟩ := hb A gd outer s H vs Q E (hr.deeper _) ok
    have I0 := inv_start (CX := CX) (E := E) (f := f) (cd := cdv) (qual := qual) (outer := outer) S hr.hd e0 (len _ _ _ _ ok) rv ic
    refine wpAny_mono (ht.run [] s1 _ H _ I0 hq) ?_ fun _ _ z => z
    intro fl s' hs
    have ending : ∀ (σ' : L2.St) (H' : Hp) (v : V) (u : Value), Inv (cxOf CX P w K mg base N qual sc f cdv A outer s H E) [] σ' H' s' →
        RelV v u → Q v H' → CE outer P w H s Q u s' := fun σ' H' v u J r q => ⟨v, H', J.os, J.bare, J.base, J.hok, r, q⟩
    match fl, hs with
    | .ret u, ⟨v, σ', H', J, r, q⟩ => exact ending σ' H' v u J r q
    | .next, ⟨σ', H', J, q⟩ => exact ending σ' H' .non .none J rfl q
    | .brk, ⟨_, _, _, q⟩ => exact q.elim
    | .cont, ⟨_, _, _, q⟩ => exact q.elim
end

section
variable {X : Cx} {CX : CXT} {k : Nat} {f : Addr} {fd : FuncData} {ps : List Str} {sp : Sp} {dvs : List V} {ds : List Value} {E : XK}
/-- it runs where a body calls it -/
theorem go_fn {pins : List (Addr × Obj)} {σ : L2.St} {H : Hp} {s : Shared} {Q : VK} {us all : List Value} {kw : List (Str × Value)} {vs : List V}
    (F : GOk X.prog X.w X.K X.mg X.base CX k f fd ps sp) (hr : Room k X.A) (gd : Still X.A)
    (bt : all.length = ps.length → BindsTo s fd ⟨us, kw⟩ (ps.zip all)) (hx : Passes CX X E)
    (I : Inv X pins σ H s) (r : Vals vs all) (h : sp vs H Q E) :
    wpAny (model X.prog X.w) X.A (call (.ref f) us kw) (EP X pins σ Q) X.xe s := by
  have hl : all.length = ps.length := r.length.symm.trans (F.len _ _ _ _ h)
  refine wpAny_call (codeAny_mono (F.go X.A hr gd X.stack s H I.env0 ⟨us, kw⟩ all vs Q E (bt hl) r h) ?_)
  intro res s' hq
  match res, hq with
  | .error e, hq => exact hx pins σ H s e s' I hq
  | .ok (.ret u), hq => exact I.after hq
  | .ok .next, hq => exact hq.elim
  | .ok .brk, hq => exact hq.elim
  | .ok .cont, hq => exact hq.elim

variable {x : Str} {p pos : Pos} {e : Expr} {es : List Expr} {t tk : TA} {kws : List Keyword} {ks : List Str}
/-- f(e, ..) -/
theorem gp_call (F : GOk X.prog X.w X.K X.mg X.base CX k f fd ps sp) (hr : Room k X.A) (gd : Still X.A) (hg : Gl X x) (hm : X.mg x = some (.ref f))
    (hk : PySem.W.keepIn X.K (.ref f) = true) (hb : Binds X.K fd ps ds) (hd : Vals dvs ds) (hx : Passes CX X E) (ha : PA X (e :: es) t)
    (hdb : (x == ("__debug__" : Str)) = false := by decide) (he : starEach (e :: es) X.env = (false, eval e X.env) :: starEach es X.env := by rfl)
    (hpl : (backTo pos (starEach es X.env)).any (·.1) = false := by rfl) :
    PE X (.Call (.Name x p) (e :: es) [] pos) (tCall sp dvs E t) :=
  ⟨fun pins s σ H Q I h => wpAny_Call_Name_kw (ld_glob I hg hm
    (PySem.W.callWith_K (h₀ := X.base) I.ok.mod.kin hk (thn (ha.run pos pins s σ H _ I h) fun us s1 q => by
      obtain ⟨vs, H1, I1, r, q⟩ := q
      exact ⟨I1.kIn, go_fn (kw := []) F hr gd (hb s1 us I1.kIn) hx I1 (r.append hd) q⟩) he hpl) hdb)⟩
theorem gp_call0 (F : GOk X.prog X.w X.K X.mg X.base CX k f fd ps sp) (hr : Room k X.A) (gd : Still X.A) (hg : Gl X x) (hm : X.mg x = some (.ref f))
    (hk : PySem.W.keepIn X.K (.ref f) = true) (hb : Binds X.K fd ps ds) (hd : Vals dvs ds) (hx : Passes CX X E)
    (hdb : (x == ("__debug__" : Str)) = false := by decide) : PE X (.Call (.Name x p) [] [] pos) (tCall sp dvs E tNil) :=
  ⟨fun pins s σ H Q I h => wpAny_Call_Name_kw (ld_glob I hg hm
    (PySem.W.callWith_K0 I.kIn hk (go_fn (us := []) (kw := []) (vs := dvs) F hr gd (hb s [] I.kIn) hx I hd h)) hdb)⟩
/-- f(e, .., k = v, ..), by a binding of keywords -/
theorem gp_callK {n : Nat} {g : List Value → List Value → List Value} {gV : List V → List V → List V}
    (F : GOk X.prog X.w X.K X.mg X.base CX k f fd ps sp) (hr : Room k X.A) (gd : Still X.A) (hg : Gl X x) (hm : X.mg x = some (.ref f))
    (hk : PySem.W.keepIn X.K (.ref f) = true) (hb : KBn X.K fd ps n ks g gV) (hx : Passes CX X E)
    (ha : PA X (e :: es) t) (hkw : PK X kws tk)
    (hall : (backToKw pos (keywordEach kws X.env)).all (·.1.isSome) = true := by rfl)
    (hks : (backToKw pos (keywordEach kws X.env)).filterMap (·.1) = ks := by rfl)
    (hdb : (x == ("__debug__" : Str)) = false := by decide) (he : starEach (e :: es) X.env = (false, eval e X.env) :: starEach es X.env := by rfl)
    (hpl : ((backTo pos (starEach (e :: es) X.env)).any (·.1) || (backToKw pos (keywordEach kws X.env)).any (·.1.isNone)) = false := by rfl) :
    PE X (.Call (.Name x p) (e :: es) kws pos) (tCallN n ks.length sp gV E t tk) :=
  ⟨fun pins s σ H Q I h => wpAny_Call_Name_kw (ld_glob I hg hm
    (PySem.W.callWith_KW (h₀ := X.base) I.ok.mod.kin hk hall (thn (ha.run pos pins s σ H _ I h) fun us s1 q => by
      obtain ⟨vs, H1, I1, r, q⟩ := q
      refine thn (hkw.run pos pins s1 σ H1 _ I1 q) fun ws s2 q2 => ?_
      obtain ⟨zs, H2, I2, rz, l1, l2, q2⟩ := q2
      refine ⟨I2.kIn, ?_⟩
      rw [hks]
      exact go_fn F hr gd (fun _ => hb.to s2 us ws I2.kIn (r.length.symm.trans l1) (rz.length.symm.trans l2)) hx I2 (hb.rel r rz) q2) hpl he) hdb)⟩
end

section
variable {X : Cx} {CX : CXT} {k : Nat} {f : Addr} {fd : FuncData} {ps : List Str} {sp : Sp} {E : XK} {x : Str} {p pos : Pos} {tk : TA} {kws : List Keyword} {ks : List Str}
/-- f(k = v, ..) -/
theorem gp_callK0 {g : List Value → List Value → List Value} {gV : List V → List V → List V}
    (F : GOk X.prog X.w X.K X.mg X.base CX k f fd ps sp) (hr : Room k X.A) (gd : Still X.A) (hg : Gl X x) (hm : X.mg x = some (.ref f))
    (hk : PySem.W.keepIn X.K (.ref f) = true) (hb : KBn X.K fd ps 0 ks g gV) (hx : Passes CX X E) (hkw : PK X kws tk)
    (hall : (backToKw pos (keywordEach kws X.env)).all (·.1.isSome) = true := by rfl)
    (hks : (backToKw pos (keywordEach kws X.env)).filterMap (·.1) = ks := by rfl)
    (hdb : (x == ("__debug__" : Str)) = false := by decide)
    (hpl : ((backTo pos (starEach [] X.env)).any (·.1) || (backToKw pos (keywordEach kws X.env)).any (·.1.isNone)) = false := by rfl) :
    PE X (.Call (.Name x p) [] kws pos) (tCallN 0 ks.length sp gV E tNil tk) :=
  ⟨fun pins s σ H Q I h => wpAny_Call_Name_kw (ld_glob I hg hm
    (PySem.W.callWith_KW0 (h₀ := X.base) I.ok.mod.kin hk hall (thn (hkw.run pos pins s σ H _ I h) fun ws s2 q2 => by
      obtain ⟨zs, H2, I2, rz, l1, l2, q2⟩ := q2
      refine ⟨I2.kIn, ?_⟩
      rw [hks]
      exact go_fn (us := []) F hr gd (fun _ => hb.to s2 [] ws I2.kIn rfl (rz.length.symm.trans l2)) hx I2 (hb.rel .nil rz) q2) hpl) hdb)⟩
end

/-! ### the law's own call -/
section
variable {P : Program} {w : World} {K : PySem.W.Frag} {mg mb : Str → Option Value} {CX : CXT} {k : Nat} {fa a : Addr} {fd : FuncData} {x : Str} {sp : Sp} {s₁ : Shared} {vs : List Value} {ns : List Int}
/-- an abstract heap of the script alone, or of nothing -/
structure Alone (K : PySem.W.Frag) (P : Program) (w : World) (s₁ : Shared) (a : Addr) (ns : List Int) (H : Hp) : Prop where
  only : Only H
  sq : SqL K H a (ns.map V.int)
  ok : HOk P w H s₁.heap
  at_ : ∀ b, H b ≠ none → b = a
  apart : H a ≠ none → K.lookup a = none

theorem alone_run (kx : K.In s₁.heap) (h1 : s₁.heap.Ns mainGlobals mg) (h2 : s₁.heap.Ns builtinsNs mb)
    (h3 : ∀ x : Str, x ≠ "__name__" → mb x = bootBuiltins x) (h4 : s₁.heap.NoLimit) (h5 : s₁.gens = #[])
    (h6 : s₁.heap.get? a = some { cls := .type "list", data := .seq vs.toArray }) (hr : Room k callerA)
    (F : ∀ base : Heap, K.In base → base.Ns mainGlobals mg → GOk P w K mg base CX k fa fd [x] sp)
    (bt : ∀ (s : Shared) (u : Value), BindsTo s fd ⟨[u], []⟩ [(x, u)])
    (want : ∀ H : Hp, Only H → SqL K H a (ns.map V.int) → sp [.ref a] H (fun v _ => v = .bl true) fun _ _ _ => False)
    (never : ∀ H e s', CX [] H s₁ (fun _ _ _ => False) e s' → False) {H : Hp} (L : Alone K P w s₁ a ns H) :
    codeAny (model P w) callerA (.call (.ref fa) ⟨[.ref a], []⟩) (fun r s' => r = .ok (.ret (.bool true)) ∧ OldK s₁.heap s'.heap ∧ s'.os = s₁.os ∧ AllBare s'.gens) s₁ := by
  have free_of : ∀ {b : Addr} {o : Obj} {es : Array DictEntry} {ep : Nat}, s₁.heap.get? b = some o → o.data = .dict es ep → H b = none := by
    intro b o es ep e d
    rcases hb : H b with _ | u
    · rfl
    · have z := L.at_ b (by rw [hb]; exact fun q => nomatch q)
      rw [z, h6] at e
      have e2 := Option.some.inj e
      rw [← e2] at d
      exact nomatch d
  have ns_of : ∀ {b : Addr} {m : Str → Option Value}, s₁.heap.Ns b m → (hidT s₁.heap H).Ns b m := by
    intro b m q
    obtain ⟨o, es, ep, e, d, r⟩ := q
    exact ⟨o, es, ep, hidT_get e (free_of e d), d, r⟩
  have kin : K.In (hidT s₁.heap H) := by
    intro b o e
    refine hidT_get (kx b o e) ?_
    rcases hb : H b with _ | u
    · rfl
    · have ne : H b ≠ none := by rw [hb]; exact fun q => nomatch q
      have z := L.at_ b ne
      rw [z] at e ne
      rw [L.apart ne] at e
      exact nomatch e
  have md : Mod K mg (hidT s₁.heap H) := by
    refine ⟨kin, ns_of h1, ⟨mb, ns_of h2, h3⟩, ?_⟩
    obtain ⟨mc, q1, q2⟩ := h4
    exact ⟨mc, ns_of q1, q2⟩
  have e0 : Env0 P w K mg (hidT s₁.heap H) callerA [] s₁ H :=
    ⟨rfl, md, fun b o e => of_hidT e, Nat.le_of_eq (hidT_size _ _), trivial, (fun b hb => by cases hb), L.ok, .of_eq h5⟩
  refine codeAny_mono ((F _ kin (ns_of h1)).go callerA hr rfl [] s₁ H e0 ⟨[.ref a], []⟩ [.ref a] [.ref a] _ _ (bt s₁ (.ref a)) (.cons rfl .nil) (want H L.only L.sq)) ?_
  intro r s' q
  match r, q with
  | .error e, q => exact (never H e s' q).elim
  | .ok .next, q => exact q.elim
  | .ok .brk, q => exact q.elim
  | .ok .cont, q => exact q.elim
  | .ok (.ret u), ⟨v, H', os, br, un, ok', r', q'⟩ =>
    have q2 : v = .bl true := q'
    rw [q2] at r'
    have q3 : u = Value.bool true := r'
    rw [q3]
    refine ⟨rfl, OldK.of_keep ?_, os, br⟩
    intro b o e
    rcases hb : H b with _ | y
    · exact un.keep b o e hb (fun z => by cases z) (fun z => by cases z)
    · rcases L.only b with z | ⟨ob, xs, z⟩
      · rw [z] at hb; exact nomatch hb
      · obtain ⟨e1, _⟩ := L.ok b _ z
        obtain ⟨e2, _⟩ := ok' b _ (un.frzs b ob _ z)
        rw [e] at e1
        rw [e2, Option.some.inj e1]

theorem law_run (kx : K.In s₁.heap) (h1 : s₁.heap.Ns mainGlobals mg) (h2 : s₁.heap.Ns builtinsNs mb)
    (h3 : ∀ x : Str, x ≠ "__name__" → mb x = bootBuiltins x) (h4 : s₁.heap.NoLimit) (h5 : s₁.gens = #[])
    (h6 : s₁.heap.get? a = some { cls := .type "list", data := .seq vs.toArray }) (hi : IntsAre vs ns) (hl : ns.length ≤ sizeLine) (hr : Room k callerA)
    (F : ∀ base : Heap, K.In base → base.Ns mainGlobals mg → GOk P w K mg base CX k fa fd [x] sp)
    (bt : ∀ (s : Shared) (u : Value), BindsTo s fd ⟨[u], []⟩ [(x, u)])
    (want : ∀ H : Hp, Only H → SqL K H a (ns.map V.int) → sp [.ref a] H (fun v _ => v = .bl true) fun _ _ _ => False)
    (never : ∀ H e s', CX [] H s₁ (fun _ _ _ => False) e s' → False) :
    codeAny (model P w) callerA (.call (.ref fa) ⟨[.ref a], []⟩) (fun r s' => r = .ok (.ret (.bool true)) ∧ OldK s₁.heap s'.heap ∧ s'.os = s₁.os ∧ AllBare s'.gens) s₁ := by
  have rv := vals_of_ints hi
  have hlen := hi.length
  rcases hk : K.lookup a with _ | o
  · refine alone_run kx h1 h2 h3 h4 h5 h6 hr F bt want never (ns := ns) (H := fun b => if b = a then some (.frz { cls := .type "list", data := .seq vs.toArray } (.lst (ns.map V.int))) else none) ⟨?_, ?_, ?_, ?_, fun _ => hk⟩
    · intro b
      by_cases z : b = a
      · exact .inr ⟨_, _, if_pos z⟩
      · exact .inl (if_neg z)
    · exact .inl (.inr ⟨{ cls := .type "list", data := .seq vs.toArray }, if_pos rfl⟩)
    · intro b u e
      by_cases z : b = a
      · have e := (if_pos z).symm.trans e
        rw [← Option.some.inj e, z]
        exact ⟨h6, by rw [List.length_map]; exact hl, vs, _, rv, h6⟩
      · have e := (if_neg z).symm.trans e
        exact nomatch e
    · intro b e
      by_cases z : b = a
      · exact z
      · exact absurd (if_neg z) e
  · have e := kx a o hk
    rw [h6] at e
    have e := Option.some.inj e
    subst e
    refine alone_run kx h1 h2 h3 h4 h5 h6 hr F bt want never (ns := ns) (H := fun _ => none) ⟨fun _ => .inl rfl, ?_, (fun b u e => nomatch e), (fun b e => absurd rfl e), fun e => absurd rfl e⟩
    refine .inr ⟨_, vs.toArray, _, hk, rfl, rfl, rfl, ?_, ?_⟩
    · rw [List.size_toArray, hlen]; exact hl
    · rw [List.toList_toArray]; exact rv
end

/-- the end of a row: from the law's promise -/
theorem g_walk {l : PySem.W.OpenLaw} {n k : Nat} {q : Program} {loose : List Str} {XP : (Str → Option Value) → Heap → Prop} {YP : World → Heap → Prop} {d : DefRec} {K : Params → PySem.W.Frag} {CX : World → CXT} {sp : World → Sp} {x : Str}
    (h1 : l.most = some n) (h2 : n ≤ sizeLine) (h3 : d.params.defaults = []) (hr : Room k callerA)
    (hy : ∀ (w : World) (h : Heap), YP w h → (K w.params).In h)
    (F : ∀ (w : World) (mg : Str → Option Value) (fa : Addr) (h : Heap), (K w.params).In h → h.Ns mainGlobals mg → mg d.name = some (.ref fa) →
      ∃ fd : FuncData, (∀ (s : Shared) (u : Value), BindsTo s fd ⟨[u], []⟩ [(x, u)]) ∧
        (∀ base : Heap, (K w.params).In base → base.Ns mainGlobals mg → GOk l.prog w (K w.params) mg base (CX w) k fa fd [x] (sp w)))
    (want : ∀ (w : World) (H : Hp) (a : Addr) (ns : List Int), ns.length ≤ n → Only H → SqL (K w.params) H a (ns.map V.int) →
      sp w [.ref a] H (fun v _ => v = .bl true) (fun _ _ _ => False))
    (never : ∀ (w : World) (H : Hp) (s : Shared) (e : Value) (s' : Shared), CX w [] H s (fun _ _ _ => False) e s' → False) :
    PySem.W.WalkO q loose XP YP l.row.toRowW d [] (fun f vs => PySem.call f vs) := by
  refine Att.attach_call h1 h3 ?_
  intro w s₀ s₁ mg mb fa o pm cd doc a vs ns G Y _ _ _ hmg hob hin hlen hgen
  obtain ⟨fd, bt, hF⟩ := F w mg fa _ (hy w _ Y) G.T.g hmg
  exact law_run (hy w _ Y) G.T.g G.T.b G.T.builtins G.T.nolimit hgen hob hin (Nat.le_trans hlen h2) hr hF bt
    (fun H hO hS => want w H a ns hlen hO hS) (fun H e s' => never w H s₁ e s')
end VG
namespace VL
open PySem PySem.Spec PyProof.Rows L2 VG

/-- a tuple that is known to hold no dict -/
def SqN (K : PySem.W.Frag) (H : Hp) (a : Addr) (xs : List V) : Prop :=
  (∃ o : Obj, o.dict = none ∧ H a = some (.frz o (.tup xs))) ∨
    ∃ (o : Obj) (vz : Array Value) (n : Nat), K.lookup a = some o ∧ o.cls = .type "tuple" ∧ o.dict = none ∧ o.data = .seq vz n ∧ vz.size ≤ sizeLine ∧ Vals xs vz.toList
theorem SqN.t {K : PySem.W.Frag} {H : Hp} {a : Addr} {xs : List V} (h : SqN K H a xs) : SqT K H a xs := by
  rcases h with ⟨o, _, e⟩ | ⟨o, vz, n, h1, h2, _, h3, h4, h5⟩
  · exact .inl (.inr ⟨o, e⟩)
  · exact .inr ⟨o, vz, n, h1, h2, h3, h4, h5⟩
theorem SqN.new {K : PySem.W.Frag} {H : Hp} {a : Addr} {xs : List V} {o : Obj} (h : o.dict = none) : SqN K (upd H a (.frz o (.tup xs))) a xs := .inl ⟨o, h, upd_same⟩
section
variable {X : Cx} {pins : List (Addr × Obj)} {σ : L2.St} {H : Hp} {s : Shared} {a : Addr} {xs : List V}
theorem SqN.free (h : SqN X.K H a xs) (J : Inv X pins σ H s) : ∃ o, s.heap.get? a = some o ∧ o.cls = .type "tuple" ∧ o.dict = none := by
  obtain ⟨_, _, ⟨o, e, c, _⟩, _⟩ := J.tuple h.t
  rcases h with ⟨o', d, e'⟩ | ⟨o', _, _, k, _, d, _⟩
  · have := (J.hok a _ e').1
    rw [e] at this
    cases this
    exact ⟨o, e, c, d⟩
  · have := J.kIn a o' k
    rw [e] at this
    cases this
    exact ⟨o, e, c, d⟩
end
/-- a new tuple laid, its object known -/
abbrev tobj (vz : List Value) : Obj := { cls := .type "tuple", data := .seq vz.toArray }
section
variable {X : Cx} {pins : List (Addr × Obj)} {σ : L2.St} {H : Hp} {s : Shared} {xs : List V}
theorem lay_tup {vz : List Value} (J : Inv X pins σ H s) (z : xs.length ≤ sizeLine) (r : Vals xs vz) :
    Inv X pins σ (upd H s.heap.objs.size (.frz (tobj vz) (.tup xs))) { s with heap := s.heap.push (tobj vz) } :=
  J.laid (t' := s.toks) (fun _ _ w => Heap.get?_push_of_some _ w) (Nat.le_refl _) ⟨Heap.get?_push_size _ rfl, z, vz, r, ⟨_, Heap.get?_push_size _ rfl, rfl, _, rfl⟩⟩
/-- what a new tuple is to be told of -/
abbrev NewT (H : Hp) (xs : List V) (Q : VK) : Prop := ∀ (p : Addr) (o : Obj), o.dict = none → H p = none → Q (.ref p) (upd H p (.frz o (.tup xs)))
theorem ep_tup {vz : List Value} {Q : VK} (J : Inv X pins σ H s) (z : xs.length ≤ sizeLine) (r : Vals xs vz) (q : NewT H xs Q) :
    EP X pins σ Q (.ref s.heap.objs.size) { s with heap := s.heap.push (tobj vz) } :=
  ⟨.ref s.heap.objs.size, _, lay_tup J z r, rfl, q _ (tobj vz) rfl (J.hok.fresh (Nat.le_refl _))⟩
end
def tTupN (t : TA) : TE := fun σ H Q => t σ H fun xs H1 => xs.length ≤ sizeLine ∧ NewT H1 xs Q
section
variable {X : Cx} {e : Expr} {es : List Expr} {te : TE} {t : TA} {pos : Pos}
theorem pe_tupN {x1} (h : PA X es t) : PE X (.Tuple es x1 pos) (tTupN t) :=
  ⟨fun pins s σ H Q J hq => wpAny_Tuple_spliced (thn (h.run pos pins s σ H _ J hq) fun us s1 ⟨_, _, J1, r, z, q⟩ => ⟨by rw [← r.length]; exact z, ep_tup J1 z r q⟩)⟩
/-- tuple(xs) -/
abbrev rTupOfN (K : PySem.W.Frag) : List V → Hp → VK → Prop := fun xs H Q => ∃ p ys, xs = [.ref p] ∧ ((SqL K H p ys ∧ NewT H ys Q) ∨ (SqT K H p ys ∧ Q (.ref p) H))
theorem call_tupOfN : CallR X (.type "tuple") (rTupOfN X.K) := by
  intro pins s σ H xs us Q J r h
  obtain ⟨p, ys, rfl, h⟩ := h
  obtain ⟨u, rfl, rx⟩ := vals1 r
  cases rx
  rcases h with ⟨hq, q⟩ | ⟨hq, q⟩
  · obtain ⟨vz, r2, pl, hz⟩ := J.list hq
    have e := r2.length
    refine call_tuple_list pl.isList (fun h' kp => ep_tup (s := { s with heap := h' }) (J.kept (t' := s.toks) kp) hz r2 q) ?_
    rw [List.size_toArray, ← e]
    exact hz
  · obtain ⟨vz, r2, pl, _⟩ := J.tuple hq
    exact call_tuple_same pl ⟨.ref p, H, J, rfl, q⟩
/-- t[lo:hi] -/
def rSlN (K : PySem.W.Frag) : V → Option Int → Option Int → Hp → VK → Prop := fun x lo hi H Q => ∃ a xs, x = .ref a ∧ SqT K H a xs ∧
  (HT.sIx xs.length 0 lo = 0 ∧ HT.sIx xs.length xs.length hi = xs.length → Q (.ref a) H) ∧ (¬ (HT.sIx xs.length 0 lo = 0 ∧ HT.sIx xs.length xs.length hi = xs.length) → NewT H (cutV xs lo hi) Q)
theorem sl_tupN : SlR X (rSlN X.K) := by
  intro pins s σ H x v vl vu lo hi sl Q J rx hs pl pu h
  obtain ⟨a, xs, rfl, hx, q1, q2⟩ := h
  cases rx
  obtain ⟨vz, r, ht, hz⟩ := J.tuple hx
  have e : vz.toArray.size = xs.length := by rw [List.size_toArray, ← r.length]
  refine ⟨"tuple", _, PyProof.Rows.slot_tuple_getitem.lookup, ht.typeIs, ?_⟩
  by_cases w : HT.sIx xs.length 0 lo = 0 ∧ HT.sIx xs.length xs.length hi = xs.length
  · exact getItem_tuple_whole ht hs pl pu (by rw [e]; exact w) ⟨.ref a, H, J, rfl, q1 w⟩
  · refine HT.getItem_tuple_cut ht hs pl pu (by rw [e]; exact w) ?_ (by rw [e]; exact hz)
    rw [e]
    exact ep_tup J (Nat.le_trans (cutV_length xs lo hi) hz) ((r.drop _).take _) (q2 w)
/-- t + u -/
def rCatN (K : PySem.W.Frag) : R2 := fun x y H Q => ∃ a b xs ys, x = .ref a ∧ y = .ref b ∧ SqT K H a xs ∧ SqT K H b ys ∧ xs.length + ys.length ≤ sizeLine ∧
  (xs = [] → Q (.ref b) H) ∧ (xs ≠ [] → ys = [] → Q (.ref a) H) ∧ (xs ≠ [] → ys ≠ [] → NewT H (xs ++ ys) Q)
theorem op_catN : OpR X (binaryOp .Add) (rCatN X.K) := by
  intro pins s σ H x y v u Q J rx ry h
  obtain ⟨a, b, xs, ys, rfl, rfl, ha, hb, hz, q0, q1, q2⟩ := h
  cases rx
  cases ry
  obtain ⟨v1, r1, p1, _⟩ := J.tuple ha
  obtain ⟨v2, r2, p2, _⟩ := J.tuple hb
  by_cases nx : xs = []
  · subst nx
    cases r1
    exact cat_tup0 p1 p2 ⟨.ref b, H, J, rfl, q0 rfl⟩
  · refine HT.cat_tup p1 p2 (fun z => nx (r1.nil_iff.mp z)) (fun z => ⟨.ref a, H, J, rfl, q1 nx (r2.nil_iff.mp z)⟩) (fun z => ?_) (by rw [← r1.length, ← r2.length]; exact hz)
    exact ep_tup J (by rw [List.length_append]; exact hz) (r1.append r2) (q2 nx fun w => z (r2.nil_iff.mpr w))
/-- t * n -/
def rRepN (K : PySem.W.Frag) : R2 := fun x y H Q => ∃ l k xs, x = .ref l ∧ y = .int k ∧ SqT K H l xs ∧ xs ≠ [] ∧ 2 ≤ k ∧ k ≤ 1000 ∧ xs.length ≤ 1000 ∧ NewT H (List.replicate k.toNat xs).flatten Q
theorem op_repN : OpR X (binaryOp .Mult) (rRepN X.K) := by
  intro pins s σ H x y v u Q J rx ry h
  obtain ⟨l, k, xs, rfl, rfl, hT, ne, h1, h2, hz, q⟩ := h
  cases rx
  obtain ⟨t, rfl⟩ := ry
  obtain ⟨vz, r, ⟨⟨cls, dd, dat, slo⟩, ho, hc, n, hd⟩, _⟩ := J.tuple hT
  simp only at hc hd
  subst hc hd
  have le : vz.length = xs.length := r.length.symm
  have full : vz.toArray.isEmpty = false := by
    rcases vz with _ | ⟨y, ys⟩
    · exact absurd (List.eq_nil_of_length_eq_zero le.symm) ne
    · rfl
  have sz : vz.toArray.size = xs.length := by rw [List.size_toArray, le]
  have few : xs.length * k.toNat ≤ 1000 * 1000 := Nat.mul_le_mul hz (by omega)
  have many : ((vz.toArray.size : Nat) : Int) * k ≤ 1000000 := by
    have w : ((xs.length * k.toNat : Nat) : Int) = (xs.length : Int) * k := by
      rw [Int.natCast_mul, Int.toNat_of_nonneg (by omega)]
    rw [sz, ← w]
    omega
  have fl : (List.replicate k.toNat vz).flatten.length ≤ sizeLine := by
    rw [PyProof.Rows.lm_len_rep_flat, le, sizeLine_eq, Nat.mul_comm]
    omega
  have b0 : (decide (k < -(2 ^ 63)) || decide (k ≥ 2 ^ 63)) = false := by
    rw [decide_eq_false (by omega), decide_eq_false (by omega)]; rfl
  have b1 : (vz.toArray.isEmpty || k == 1) = false := by
    rw [full, beq_eq_false_iff_ne.mpr (show k ≠ 1 by omega)]; rfl
  have b2 : (decide (k ≤ 0) || vz.toArray.isEmpty) = false := by
    rw [full, decide_eq_false (show ¬ k ≤ 0 by omega)]; rfl
  have b4 : Builtin.Tuple.tupleTooMany (((vz.toArray.size : Nat) : Int) * k) = false := by
    unfold Builtin.Tuple.tupleTooMany
    exact decide_eq_false (by rw [sizeLine_eq]; omega)
  refine wpAny_binaryOp_repeat_ref (T := "tuple") (U := "int") (by decide) ⟨_, ho, rfl⟩ (fun s' => typeIs_int s' k t) noFill_tuple_mul F.fills_int_mul F.slot_int_rmul repeat_tuple F.slot_int_index.lookup ?_
  refine call_meets F.slot_int_rmul (typeIs_int s k t) F.entry_int_rmul (F.args_int_rmul_2 _ _) (int_rmul_tuple k t l vz.toArray n dd slo) ⟨ho, rfl, ⟨_, ho, rfl⟩, ?_⟩
  refine call_meets F.slot_tuple_mul ⟨_, ho, rfl⟩ F.entry_tuple_mul (F.args_tuple_mul_2 _ _) (tuple_mulW l vz.toArray n dd slo k t b0 b1 b2 (by omega) b4 (by rw [size_rep, List.size_toArray]; exact fl)) ⟨ho, ?_⟩
  rw [size_rep]
  exact ep_tup J (by rw [PyProof.Rows.lm_len_rep_flat, sizeLine_eq, Nat.mul_comm]; omega) (r.rep k.toNat) q
/-- tuple(range(..)) -/
def tTupRgN (te : L2.St → Hp → (Int → Int → Hp → Prop) → Prop) : TE := fun σ H Q => te σ H fun a b H1 => RgOk a b ∧ NewT H1 (rgV a b) Q
theorem pe_tupRgN {tr : L2.St → Hp → (Int → Int → Hp → Prop) → Prop} {p pos : Pos} (hc : X.calm = true) (hg : Gl X "tuple") (hm : X.mg "tuple" = none) (he : PRg X e tr) (na : starEach [e] X.env = (false, eval e X.env) :: starEach [] X.env := by rfl) : PE X (.Call (.Name "tuple" p) [e] [] pos) (tTupRgN tr) := by
  refine ⟨fun pins s σ H Q J h => ?_⟩
  refine Call_ (ld_blt J hg hm boot_tuple (PyProof.Rows.callWith_type1 (args_cons (thn (he pins s σ H _ J h) fun x s1 w => ?_) na) na))
  obtain ⟨r, a, b, t, u, v, H1, ex, hr, J1, ⟨b1, b2, b3, b4, b5⟩, q⟩ := w
  refine args_nil ?_
  subst ex
  refine call_tuple_range (n := (b - a).toNat) (J1.ok.hd hc) hr (small_one b1 b2 b3 b4) (rangeSize_nat a b) b5 fun h' tk acc hk hi => ?_
  have go := ep_tup (s := { s1 with heap := h', toks := tk }) (Q := Q) (J1.kept hk) (xs := rgV a b) (vz := acc.toList) (by rw [rgV_length, sizeLine_eq]; omega) (vals_rg hi) q
  simpa only [tobj, Array.toArray_toList] using go
end
end VL
namespace VL
open PySem PySem.Spec PyProof.Rows L2 VG

/-- what is frozen, and how many draws of a feed of four places there were, at most -/
structure FS where
  fr : Addr → Prop
  ck : Nat
instance : CoeFun FS (fun _ => Addr → Prop) := ⟨FS.fr⟩
abbrev FS.or (F : FS) (N : Addr → Prop) : FS := ⟨fun x => F.fr x ∨ N x, F.ck⟩
def LIM : Nat := 1099511627776
abbrev Hs := L2.St

/-- what a container is: a list; a dict by its keys: ints and texts, or tuples of these -/
inductive CT where
  | lst | K (ks : List L2.Key) | T (ks : List (List L2.Key))
def CT.ho : CT → List V → HO
  | .lst, us => .lst us
  | .K ks, us => .dK (ks.zip us)
  | .T ks, us => .dT (ks.zip us)
def kD : L2.Key → PyData
  | .inl i => .int i
  | .inr x => .str x
def kDs (k : List L2.Key) : PyData := .tuple (k.map kD)
def dKD (kvs : List (L2.Key × PyData)) : PyData := .dict (kvs.map fun kv => (kD kv.1, kv.2))
/-- v is the data d: lists in it stand among the frozen ones -/
inductive Rp (K : PySem.W.Frag) (F : FS) (H : Hp) : Bool → List V → List PyData → Prop
  | nil : Rp K F H true [] []
  | cons {v : V} {vs : List V} {d : PyData} {ds : List PyData} : Rp K F H false [v] [d] → Rp K F H true vs ds → Rp K F H true (v :: vs) (d :: ds)
  | non : Rp K F H false [.non] [.none]
  | bl (b : Bool) : Rp K F H false [.bl b] [.bool b]
  | int (i : Int) : Rp K F H false [.int i] [.int i]
  | str (x : Str) : Rp K F H false [.str x] [.str x]
  | lst {a : Addr} {xs : List V} {ds : List PyData} : F a → H a = some (.lst xs) → Rp K F H true xs ds → Rp K F H false [.ref a] [.list ds]
  | tup {a : Addr} {xs : List V} {ds : List PyData} : SqN K H a xs → Rp K F H true xs ds → Rp K F H false [.ref a] [.tuple ds]
  | dic {a : Addr} {ks : List L2.Key} {xs : List V} {ds : List PyData} : F a → H a = some (.dK (ks.zip xs)) → Rp K F H true xs ds → Rp K F H false [.ref a] [.dict ((ks.zip ds).map fun kv => (kD kv.1, kv.2))]
abbrev R1 (K : PySem.W.Frag) (F : FS) (H : Hp) (v : V) (d : PyData) : Prop := Rp K F H false [v] [d]
abbrev RA (K : PySem.W.Frag) (F : FS) (H : Hp) (vs : List V) (ds : List PyData) : Prop := Rp K F H true vs ds

/-- what frozen lists, tuples and locked things keep -/
structure FM (F F' : FS) (H H' : Hp) : Prop where
  fr : ∀ a, F a → F' a
  fk : ∀ a o, F a → H a = some o → H' a = some o
  tp : ∀ a xs, H a = some (.tup xs) → H' a = some (.tup xs)
  fz : ∀ a o u, H a = some (.frz o u) → H' a = some (.frz o u)
/-- a step: but for the addresses of M all that was tracked stays -/
structure Stp (M : Addr → Prop) (F F' : FS) (H H' : Hp) : Prop extends FM F F' H H' where
  kp : ∀ a o, H a = some o → ¬ M a → H' a = some o
  ex : ∀ a, H a ≠ none → H' a ≠ none
  nw : ∀ a, F' a → F a ∨ H a = none
  ck : F.ck ≤ F'.ck
/-- a list, a dict -/
inductive LD : HO → Prop
  | lst {xs : List V} : LD (.lst xs)
  | dct {kvs : List (L2.Key × V)} : LD (.dK kvs)
  | dtt {kvs : List (List L2.Key × V)} : LD (.dT kvs)
theorem CT.ld : ∀ (c : CT) (us : List V), LD (c.ho us)
  | .lst, _ => .lst
  | .K _, _ => .dct
  | .T _, _ => .dtt
theorem CT.nt : ∀ (c : CT) (us : List V) (xs : List V), c.ho us ≠ .tup xs
  | .lst, _, _ => (fun z => nomatch z)
  | .K _, _, _ => (fun z => nomatch z)
  | .T _, _, _ => (fun z => nomatch z)
theorem CT.nf : ∀ (c : CT) (us : List V) (o : Obj) (u : HO), c.ho us ≠ .frz o u
  | .lst, _, _, _ => (fun z => nomatch z)
  | .K _, _, _, _ => (fun z => nomatch z)
  | .T _, _, _, _ => (fun z => nomatch z)
def FOk (F : FS) (H : Hp) : Prop := ∀ a, F a → ∃ o, H a = some o ∧ LD o

section
variable {K : PySem.W.Frag} {F F' F1 F2 : FS} {H H' H1 H2 : Hp} {M M' : Addr → Prop}
theorem FM.sqt (m : FM F F' H H') {a : Addr} {xs : List V} (h : SqT K H a xs) : SqT K H' a xs := by
  rcases h with (h | ⟨o, h⟩) | h
  · exact .inl (.inl (m.tp _ _ h))
  · exact .inl (.inr ⟨o, m.fz _ _ _ h⟩)
  · exact .inr h
theorem FM.sqn (m : FM F F' H H') {a : Addr} {xs : List V} (h : SqN K H a xs) : SqN K H' a xs := by
  rcases h with ⟨o, d, h⟩ | h
  · exact .inl ⟨o, d, m.fz _ _ _ h⟩
  · exact .inr h
theorem Rp.mono (m : FM F F' H H') {b : Bool} {vs : List V} {ds : List PyData} (h : Rp K F H b vs ds) : Rp K F' H' b vs ds := by
  induction h with
  | nil => exact .nil
  | cons _ _ a b => exact .cons a b
  | non => exact .non
  | bl b => exact .bl b
  | int i => exact .int i
  | str x => exact .str x
  | lst f h _ ih => exact .lst (m.fr _ f) (m.fk _ _ f h) ih
  | dic f h _ ih => exact .dic (m.fr _ f) (m.fk _ _ f h) ih
  | tup h _ ih => exact .tup (m.sqn h) ih
theorem RA.len : ∀ {vs : List V} {ds : List PyData} (_ : RA K F H vs ds), vs.length = ds.length
  | _, _, .nil => rfl
  | _, _, .cons _ b => congrArg Nat.succ (RA.len b)
theorem RA.uncons {v : V} {vs : List V} {d : PyData} {ds : List PyData} (h : RA K F H (v :: vs) (d :: ds)) : R1 K F H v d ∧ RA K F H vs ds := by
  cases h with
  | cons a b => exact ⟨a, b⟩
theorem RA.get : ∀ {vs : List V} {ds : List PyData} (_ : RA K F H vs ds) {i : Nat} {d : PyData}, ds[i]? = some d → ∃ v, vs[i]? = some v ∧ R1 K F H v d
  | _, _, .nil, _, _, e => by simp at e
  | _, _, .cons a _, 0, d, e => by simp at e; subst e; exact ⟨_, rfl, a⟩
  | _, _, .cons _ b, i + 1, d, e => by
    obtain ⟨v, h1, h2⟩ := RA.get b (i := i) (d := d) (by simpa using e)
    exact ⟨v, by simpa using h1, h2⟩
theorem RA.append : ∀ {vs : List V} {ds : List PyData} {us : List V} {es : List PyData}, RA K F H vs ds → RA K F H us es → RA K F H (vs ++ us) (ds ++ es)
  | _, _, _, _, .nil, s => s
  | _, _, _, _, .cons a b, s => .cons a (RA.append b s)
theorem RA.drop : ∀ {vs : List V} {ds : List PyData} (n : Nat), RA K F H vs ds → RA K F H (vs.drop n) (ds.drop n)
  | _, _, 0, h => h
  | _, _, _ + 1, .nil => .nil
  | _, _, n + 1, .cons _ b => RA.drop n b
theorem RA.take : ∀ {vs : List V} {ds : List PyData} (n : Nat), RA K F H vs ds → RA K F H (vs.take n) (ds.take n)
  | _, _, 0, _ => .nil
  | _, _, _ + 1, .nil => .nil
  | _, _, n + 1, .cons a b => .cons a (RA.take n b)
theorem RA.set {v : V} {d : PyData} (r : R1 K F H v d) : ∀ {vs : List V} {ds : List PyData} (n : Nat), RA K F H vs ds → RA K F H (vs.set n v) (ds.set n d)
  | _, _, _, .nil => .nil
  | _, _, 0, .cons _ b => .cons r b
  | _, _, n + 1, .cons a b => .cons a (RA.set r n b)
theorem RA.rep {vs : List V} {ds : List PyData} (h : RA K F H vs ds) : ∀ k : Nat, RA K F H (List.replicate k vs).flatten (List.replicate k ds).flatten
  | 0 => .nil
  | k + 1 => by
    rw [List.replicate_succ, List.replicate_succ, List.flatten_cons, List.flatten_cons]
    exact h.append (RA.rep h k)
theorem RA.one {v : V} {d : PyData} (h : R1 K F H v d) : RA K F H [v] [d] := .cons h .nil
theorem RA.ints : ∀ ns : List Int, RA K F H (ns.map V.int) (ns.map PyData.int)
  | [] => .nil
  | n :: ns => .cons (.int n) (RA.ints ns)
theorem RA.strs : ∀ ns : List Str, RA K F H (ns.map V.str) (ns.map PyData.str)
  | [] => .nil
  | n :: ns => .cons (.str n) (RA.strs ns)

mutual
theorem R1.dp : ∀ {d : PyData} {v : V}, R1 K F H v d → d.hasDict = false → Dp K H v d
  | .none, _, .non, _ => .non
  | .bool _, _, .bl b, _ => .bl b
  | .int _, _, .int i, _ => .int i
  | .str _, _, .str x, _ => .str x
  | .list _, _, .lst _ h r, n => .lst (SqL.of h) (RA.dp r (by simpa [PyData.hasDict] using n))
  | .tuple _, _, .tup h r, n => .tup h.t (RA.dp r (by simpa [PyData.hasDict] using n))
  | .dict _, _, _, n => absurd n (by simp [PyData.hasDict])
theorem RA.dp : ∀ {ds : List PyData} {vs : List V}, RA K F H vs ds → PyData.hasDictAll ds = false → DpAll K H vs ds
  | [], _, .nil, _ => .nil
  | _ :: _, _, .cons a b, n => .cons (R1.dp a (by simp only [PyData.hasDictAll, Bool.or_eq_false_iff] at n; exact n.1)) (RA.dp b (by simp only [PyData.hasDictAll, Bool.or_eq_false_iff] at n; exact n.2))
end

theorem FM.refl : FM F F H H := ⟨fun _ h => h, fun _ _ _ h => h, fun _ _ h => h, fun _ _ _ h => h⟩
theorem FM.trans (a : FM F F1 H H1) (b : FM F1 F2 H1 H2) : FM F F2 H H2 :=
  ⟨fun x h => b.fr x (a.fr x h), fun x o f h => b.fk x o (a.fr x f) (a.fk x o f h), fun x xs h => b.tp x xs (a.tp x xs h), fun x o u h => b.fz x o u (a.fz x o u h)⟩
theorem Stp.refl : Stp M F F H H := ⟨FM.refl, fun _ _ h _ => h, fun _ h => h, fun _ h => .inl h, Nat.le_refl _⟩
/-- two steps; what the second one may change, the first one might, or it is new since -/
theorem Stp.join (a : Stp M F F1 H H1) (b : Stp M' F1 F2 H1 H2) (h : ∀ x, M' x → M x ∨ H x = none) : Stp M F F2 H H2 where
  toFM := a.toFM.trans b.toFM
  kp := fun x o e m => b.kp x o (a.kp x o e m) fun m' => (h x m').elim m fun z => by rw [z] at e; cases e
  ex := fun x e => b.ex x (a.ex x e)
  nw := fun x f => (b.nw x f).elim (a.nw x) fun z => by
    by_cases e : H x = none
    · exact .inr e
    · exact absurd z (a.ex x e)
  ck := Nat.le_trans a.ck b.ck
theorem Stp.trans (a : Stp M F F1 H H1) (b : Stp M F1 F2 H1 H2) : Stp M F F2 H H2 := a.join b fun _ m => .inl m
theorem Stp.more (a : Stp M F F1 H H1) (h : ∀ x, M x → M' x) : Stp M' F F1 H H1 := ⟨a.toFM, fun x o e m => a.kp x o e fun z => m (h x z), a.ex, a.nw, a.ck⟩
/-- a new object, not frozen -/
theorem Stp.new {p : Addr} {o : HO} (hp : H p = none) : Stp M F F H (upd H p o) := by
  have k : ∀ a u, H a = some u → upd H p o a = some u := fun a u e => by rw [upd_ne (ne_of_none e hp)]; exact e
  refine ⟨⟨fun _ h => h, fun a u _ e => k a u e, fun a xs e => k a _ e, fun a o u e => k a _ e⟩, fun a u e _ => k a u e, fun a h => ?_, fun _ h => .inl h, Nat.le_refl _⟩
  rcases e : H a with _ | u
  · exact absurd e h
  · rw [k a u e]; exact fun z => nomatch z
theorem FOk.new {p : Addr} {o : HO} (f : FOk F H) (hp : H p = none) : FOk F (upd H p o) := fun a h => by
  obtain ⟨xs, e, l⟩ := f a h
  exact ⟨xs, by rw [upd_ne (ne_of_none e hp)]; exact e, l⟩
/-- a set of lists that were new becomes frozen -/
theorem Stp.frz {N : Addr → Prop} (a : Stp M F F1 H H1) (hn : ∀ x, N x → H x = none) : Stp M F (F1.or N) H H1 :=
  ⟨⟨fun x h => .inl (a.fr x h), a.fk, a.tp, a.fz⟩, a.kp, a.ex, fun x h => h.elim (a.nw x) fun z => .inr (hn x z), a.ck⟩
theorem FM.grow {N : Addr → Prop} : FM F (F.or N) H H := ⟨fun _ h => .inl h, fun _ _ _ h => h, fun _ _ h => h, fun _ _ _ h => h⟩
end

/-! ### what a slot holds -/
/-- a feed: a dict of four keys (tap: a list of four places), the cells at the head -/
structure Cel where
  tap : Bool
  ns : List Int
instance : Coe (List Int) Cel := ⟨fun ns => ⟨false, ns⟩⟩
def celO (t : Bool) (c : Addr) (i l n : Int) : HO := match t with
  | true => .lst [.ref c, .int i, .int l, .int n]
  | false => .dK [(.inr "cells", .ref c), (.inr "at", .int i), (.inr "left", .int l), (.inr "count", .int n)]
inductive SV where
  /-- not known; data; a list of this frame alone; a list that is read; the law's feed; the script; a dict that stays -/
  | un | v (d : PyData) | ow (c : CT) (ds : List PyData) | bw (c : CT) (ds : List PyData) | fz (ks : List (List L2.Key)) (ds : List PyData) | cell (a : Addr) (ns : Cel) | scr (ns : List Int) | dct (kvs : List (L2.Key × PyData)) | fns (kvs : List (L2.Key × V))

abbrev SV.own (ds : List PyData) : SV := .ow .lst ds
abbrev SV.brw (ds : List PyData) : SV := .bw .lst ds

/-- the script, whatever else changes -/
def ScrL (K : PySem.W.Frag) (H : Hp) (a : Addr) (ns : List Int) : Prop :=
  ∀ H' : Hp, (∀ b o u, H b = some (.frz o u) → H' b = some (.frz o u)) → SqL K H' a (ns.map V.int)

/-- the feed: a dict with these four keys -/
def CI (F : FS) (H : Hp) (a : Addr) (ns : Cel) : Prop :=
  ¬ F a ∧ ∃ (c : Addr) (i l n : Int), H a = some (celO ns.tap c i l n) ∧
    F c ∧ H c = some (.lst (ns.ns.map V.int)) ∧ (ns.tap = true → 0 ≤ n ∧ n ≤ F.ck)

section
variable {K : PySem.W.Frag} {F F' F1 F2 : FS} {H H' H1 H2 : Hp} {M : Addr → Prop}
theorem CI.there {a : Addr} {ns : Cel} (c : CI F H a ns) : H a ≠ none := by
  obtain ⟨_, _, _, _, _, e, _⟩ := c
  rw [e]; exact fun z => nomatch z
theorem map_int_inj : ∀ {ns ms : List Int}, ns.map V.int = ms.map V.int → ns = ms
  | [], [], _ => rfl
  | [], _ :: _, e => by cases e
  | _ :: _, [], e => by cases e
  | _ :: _, _ :: _, e => by
    simp only [List.map_cons, List.cons.injEq, V.int.injEq] at e
    rw [e.1, map_int_inj e.2]
theorem CI.uniq {a : Addr} {ns ms : Cel} (c : CI F H a ns) (d : CI F' H a ms) : ns = ms := by
  obtain ⟨_, c1, i, l, n, e, _, e2, _⟩ := c
  obtain ⟨_, c2, i', l', n', e', _, e2', _⟩ := d
  rw [e] at e'
  have e' := Option.some.inj e'
  obtain ⟨t, ns⟩ := ns
  obtain ⟨t', ms⟩ := ms
  have h : t = t' ∧ c1 = c2 := by
    cases t <;> cases t'
    · have this : celO false c1 i l n = celO false c2 i' l' n' := e'
      injection this with this
      simp only [List.cons.injEq, Prod.mk.injEq, V.ref.injEq] at this
      exact ⟨rfl, this.1.2⟩
    · exact nomatch e'
    · exact nomatch e'
    · have this : celO true c1 i l n = celO true c2 i' l' n' := e'
      injection this with this
      simp only [List.cons.injEq, V.ref.injEq] at this
      exact ⟨rfl, this.1⟩
  obtain ⟨rfl, rfl⟩ := h
  rw [e2] at e2'
  have := Option.some.inj e2'
  injection this with this
  exact congrArg (Cel.mk t) (map_int_inj this)
theorem CI.keep {a : Addr} {ns : Cel} (c : CI F H a ns) (s : Stp M F F' H H') (m : ¬ M a) : CI F' H' a ns := by
  have t := c.there
  obtain ⟨nf, c', i, l, n, e, f, e2, cb⟩ := c
  exact ⟨fun z => (s.nw a z).elim nf t, c', i, l, n, s.kp _ _ e m, s.fr _ f, s.fk _ _ f e2, fun z => ⟨(cb z).1, Int.le_trans (cb z).2 (Int.ofNat_le.mpr s.ck)⟩⟩

/-- a dict that is frozen, or locked while it is walked -/
def Lkd (F : FS) (H : Hp) (p : Addr) (us : List (L2.Key × V)) : Prop := (F p ∧ H p = some (.dK us)) ∨ ∃ o, H p = some (.frz o (.dK us))
theorem Lkd.mono {p : Addr} {us : List (L2.Key × V)} (m : FM F F' H H') (h : Lkd F H p us) : Lkd F' H' p us := h.elim (fun h => .inl ⟨m.fr _ h.1, m.fk _ _ h.1 h.2⟩) fun ⟨o, h⟩ => .inr ⟨o, m.fz _ _ _ h⟩
theorem Lkd.rd {p : Addr} {us : List (L2.Key × V)} (h : Lkd F H p us) : Rd H p (.dK us) := h.elim (fun h => .inl h.2) .inr
def SlotR (K : PySem.W.Frag) (F : FS) (H : Hp) (u : V) : SV → Prop
  | .un => True
  | .v d => R1 K F H u d
  | .ow c ds => ∃ p us, u = .ref p ∧ H p = some (c.ho us) ∧ ¬ F p ∧ RA K F H us ds
  | .bw c ds => ∃ p us, u = .ref p ∧ H p = some (c.ho us) ∧ RA K F H us ds
  | .fz ks ds => ∃ p us, u = .ref p ∧ F p ∧ H p = some (.dT (ks.zip us)) ∧ RA K F H us ds
  | .cell a ns => u = .ref a ∧ CI F H a ns
  | .scr ns => ∃ a, u = .ref a ∧ ScrL K H a ns
  | .dct kvs => ∃ p us, u = .ref p ∧ Lkd F H p us ∧ us.map (·.1) = kvs.map (·.1) ∧ RA K F H (us.map (·.2)) (kvs.map (·.2))
  | .fns kvs => ∃ p, u = .ref p ∧ F p ∧ H p = some (.dK kvs)

def cellsOf (ρ : List SV) : Addr → Prop := fun a => ∃ (i : Nat) (ns : Cel), ρ[i]? = some (SV.cell a ns)

/-- where a def began: what was frozen, the heap, the feeds that it was handed; and what is to stay while a loop walks it -/
structure Bas where
  F0 : FS
  H0 : Hp
  c0 : Addr → Cel → Prop
  G : Addr → HO → Prop
/-- never changed: frozen, a tuple, locked -/
def Stay (F : FS) (a : Addr) (o : HO) : Prop := F a ∨ (∃ xs, o = .tup xs) ∨ ∃ ob u, o = .frz ob u
structure ER (K : PySem.W.Frag) (B : Bas) (F : FS) (H : Hp) (σ : Hs) (ρ : List SV) : Prop where
  len : σ.length = ρ.length
  sl : ∀ (i : Nat) (s : SV), ρ[i]? = some s → s ≠ .un → ∃ u, σ[i]? = some (some u) ∧ SlotR K F H u s
  nb : ∀ (i : Nat) (c : CT) (ds : List PyData), ρ[i]? ≠ some (.bw c ds)
  ow : ∀ (i j : Nat) (c c' : CT) (ds es : List PyData) (p : Addr), ρ[i]? = some (.ow c ds) → ρ[j]? = some (.ow c' es) → σ[i]? = some (some (.ref p)) → σ[j]? = some (some (.ref p)) → i = j
  fr : ∀ (i : Nat) (c : CT) (ds : List PyData) (p : Addr), ρ[i]? = some (.ow c ds) → σ[i]? = some (some (.ref p)) → B.H0 p = none ∧ ¬ cellsOf ρ p
  cf : ∀ a, cellsOf ρ a → (∃ ns, B.c0 a ns) ∨ B.H0 a = none
  bs : Stp (fun a => ∃ ns, B.c0 a ns) B.F0 F B.H0 H
  kb : ∀ a ns, B.c0 a ns → CI F H a ns ∧ B.H0 a ≠ none
  pin : ∀ a o, B.G a o → H a = some o ∧ Stay F a o
  dm : FOk F H

/-- what an expression leaves -/
structure Ext (ρ : List SV) (F : FS) (H : Hp) (F' : FS) (H' : Hp) : Prop where
  st : Stp (cellsOf ρ) F F' H H'
  dm : FOk F' H'
  cl : ∀ (i : Nat) (a : Addr) (ns : Cel), ρ[i]? = some (SV.cell a ns) → CI F' H' a ns
  cp : ∀ a, cellsOf ρ a → H a ≠ none
def Fo (ρ : List SV) (H : Hp) (u : V) : SV → Prop
  | .ow _ _ => ∀ p, u = .ref p → H p = none
  | .bw _ _ => ∀ p, u = .ref p → ¬ cellsOf ρ p
  | .cell a ns => (∃ i : Nat, ρ[i]? = some (.cell a ns)) ∨ H a = none
  | _ => True
structure Res (K : PySem.W.Frag) (ρ : List SV) (F : FS) (H : Hp) (F' : FS) (H' : Hp) (s : SV) (u : V) : Prop extends Ext ρ F H F' H' where
  sr : SlotR K F' H' u s
  fo : Fo ρ H u s

variable {ρ : List SV} {B : Bas} {σ : Hs} {s : SV} {u : V}
theorem ER.cell (e : ER K B F H σ ρ) {i : Nat} {a : Addr} {ns : Cel} (h : ρ[i]? = some (.cell a ns)) : CI F H a ns := by
  obtain ⟨u, _, _, c⟩ := e.sl i _ h (fun z => nomatch z)
  exact c
theorem ER.refl (e : ER K B F H σ ρ) : Ext ρ F H F H :=
  ⟨Stp.refl, e.dm, fun i a ns h => e.cell h, fun a ⟨i, ns, h⟩ => (e.cell h).there⟩
theorem Ext.trans (a : Ext ρ F H F1 H1) (b : Ext ρ F1 H1 F2 H2) : Ext ρ F H F2 H2 := ⟨a.st.trans b.st, b.dm, b.cl, a.cp⟩
/-- one that changes nothing that was there -/
theorem Ext.pure (a : Ext ρ F H F1 H1) (s : Stp (fun _ => False) F1 F2 H1 H2) (d : FOk F2 H2) : Ext ρ F H F2 H2 :=
  ⟨a.st.trans (s.more fun _ z => z.elim), d, fun i x ns h => (a.cl i x ns h).keep s id, a.cp⟩
theorem ScrL.keep {a : Addr} {ns : List Int} (h : ScrL K H a ns) (m : FM F F' H H') : ScrL K H' a ns := fun H2 k => h H2 fun b o u e => k b o u (m.fz b o u e)
/-- a result stands while others are reckoned -/
theorem SlotR.keep (h : SlotR K F1 H1 u s) (fo : Fo ρ H u s) (cp : ∀ a, cellsOf ρ a → H a ≠ none) (x : Ext ρ F1 H1 F2 H2) : SlotR K F2 H2 u s := by
  cases s with
  | un => trivial
  | v d => exact Rp.mono x.st.toFM h
  | ow c ds =>
    obtain ⟨p, us, rfl, e, nf, r⟩ := h
    have nc : ¬ cellsOf ρ p := fun z => cp p z (fo p rfl)
    refine ⟨p, us, rfl, x.st.kp _ _ e nc, fun z => (x.st.nw p z).elim nf fun q => ?_, Rp.mono x.st.toFM r⟩
    rw [q] at e; cases e
  | fz ks ds =>
    obtain ⟨p, us, rfl, f, e, r⟩ := h
    exact ⟨p, us, rfl, x.st.fr _ f, x.st.fk _ _ f e, Rp.mono x.st.toFM r⟩
  | bw c ds =>
    obtain ⟨p, us, rfl, e, r⟩ := h
    exact ⟨p, us, rfl, x.st.kp _ _ e (fo p rfl), Rp.mono x.st.toFM r⟩
  | cell a ns =>
    obtain ⟨rfl, c⟩ := h
    rcases fo with ⟨i, z⟩ | z
    · exact ⟨rfl, x.cl i a ns z⟩
    · exact ⟨rfl, c.keep x.st fun q => cp a q z⟩
  | scr ns =>
    obtain ⟨a, rfl, q⟩ := h
    exact ⟨a, rfl, q.keep x.st.toFM⟩
  | dct kvs =>
    obtain ⟨p, us, rfl, f, k, r⟩ := h
    exact ⟨p, us, rfl, f.mono x.st.toFM, k, Rp.mono x.st.toFM r⟩
  | fns kvs =>
    obtain ⟨p, rfl, f, e⟩ := h
    exact ⟨p, rfl, x.st.fr _ f, x.st.fk _ _ f e⟩
theorem ER.step (e : ER K B F H σ ρ) (x : Ext ρ F H F1 H1) : ER K B F1 H1 σ ρ where
  len := e.len
  sl := fun i s h hn => by
    obtain ⟨u, h1, h2⟩ := e.sl i s h hn
    refine ⟨u, h1, ?_⟩
    cases s with
    | un => trivial
    | v d => exact Rp.mono x.st.toFM h2
    | fz ks ds =>
      obtain ⟨p, us, rfl, f, e1, r⟩ := h2
      exact ⟨p, us, rfl, x.st.fr _ f, x.st.fk _ _ f e1, Rp.mono x.st.toFM r⟩
    | ow c ds =>
      obtain ⟨p, us, rfl, q, nf, r⟩ := h2
      refine ⟨p, us, rfl, x.st.kp _ _ q (e.fr i c ds p h h1).2, fun z => (x.st.nw p z).elim nf fun y => ?_, Rp.mono x.st.toFM r⟩
      rw [y] at q; cases q
    | bw c ds => exact absurd h (e.nb i c ds)
    | cell a ns => exact ⟨h2.1, x.cl i a ns h⟩
    | scr ns =>
      obtain ⟨a, rfl, q⟩ := h2
      exact ⟨a, rfl, q.keep x.st.toFM⟩
    | dct kvs =>
      obtain ⟨p, us, rfl, f, k, r⟩ := h2
      exact ⟨p, us, rfl, f.mono x.st.toFM, k, Rp.mono x.st.toFM r⟩
    | fns kvs =>
      obtain ⟨p, rfl, f, e1⟩ := h2
      exact ⟨p, rfl, x.st.fr _ f, x.st.fk _ _ f e1⟩
  nb := e.nb
  ow := e.ow
  fr := e.fr
  cf := e.cf
  bs := e.bs.join x.st e.cf
  kb := fun a ns h => by
    obtain ⟨c, n⟩ := e.kb a ns h
    refine ⟨?_, n⟩
    by_cases z : cellsOf ρ a
    · obtain ⟨i, ms, q⟩ := z
      have e2 := c.uniq (e.cell q)
      subst e2
      exact x.cl i a ns q
    · exact c.keep x.st z
  pin := fun a o h => by
    obtain ⟨h1, h2⟩ := e.pin a o h
    rcases h2 with f | ⟨xs, rfl⟩ | ⟨ob, u, rfl⟩
    · exact ⟨x.st.fk _ _ f h1, .inl (x.st.fr _ f)⟩
    · exact ⟨x.st.tp _ _ h1, .inr (.inl ⟨_, rfl⟩)⟩
    · exact ⟨x.st.fz _ _ _ h1, .inr (.inr ⟨_, _, rfl⟩)⟩
  dm := x.dm
end
end VL
namespace VL
open PySem PySem.Spec PyProof.Rows L2 VG

abbrev Env := List SV
abbrev TV := Env → (SV → Prop) → Prop
abbrev TVb := Env → (Bool → Prop) → Prop
abbrev TVs := Env → (List SV → Prop) → Prop

/-- te reads t, by κ draws at most -/
abbrev RE (X : Cx) (t : TV) (κ : Nat) (te : TE) : Prop := ∀ B F H σ ρ (Q : SV → Prop) (R : VK), ER X.K B F H σ ρ → F.ck + κ ≤ LIM → t ρ Q → (∀ s u F' H', F'.ck ≤ F.ck + κ → Q s → Res X.K ρ F H F' H' s u → R u H') → te σ H R
/-- e's reading over values -/
def VE (X : Cx) (e : Expr) (t : TV) (κ : Nat) : Prop := ∃ te, PE X e te ∧
  ∀ B F H σ ρ (Q : SV → Prop) (R : VK), ER X.K B F H σ ρ → F.ck + κ ≤ LIM → t ρ Q → (∀ s u F' H', F'.ck ≤ F.ck + κ → Q s → Res X.K ρ F H F' H' s u → R u H') → te σ H R
def VT (X : Cx) (e : Expr) (t : TVb) (κ : Nat) : Prop := ∃ te, PT X e te ∧
  ∀ B F H σ ρ (Q : Bool → Prop) (R : Bool → Hp → Prop), ER X.K B F H σ ρ → F.ck + κ ≤ LIM → t ρ Q → (∀ b F' H', F'.ck ≤ F.ck + κ → Q b → Ext ρ F H F' H' → R b H') → te σ H R
/-- a chain of and, or -/
def VW (X : Cx) (e : Expr) (t : TVb) (κ : Nat) : Prop := ∃ te, PW X e te ∧
  ∀ B F H σ ρ (Q : Bool → Prop) (R : Bool → Hp → Prop), ER X.K B F H σ ρ → F.ck + κ ≤ LIM → t ρ Q → (∀ b F' H', F'.ck ≤ F.ck + κ → Q b → Ext ρ F H F' H' → R b H') → te σ H R
def AllR (K : PySem.W.Frag) (ρ : Env) (F : FS) (H Hs : Hp) : List V → List SV → Prop
  | [], [] => True
  | u :: us, s :: ss => SlotR K F H u s ∧ Fo ρ Hs u s ∧ AllR K ρ F H Hs us ss
  | _, _ => False
/-- a row of expressions -/
def VA (X : Cx) (es : List Expr) (t : TVs) (κ : Nat) : Prop := ∃ ta, PA X es ta ∧
  ∀ B F H σ ρ (Q : List SV → Prop) (R : List V → Hp → Prop), ER X.K B F H σ ρ → F.ck + κ ≤ LIM → t ρ Q →
    (∀ ss us F' H', F'.ck ≤ F.ck + κ → Q ss → Ext ρ F H F' H' → AllR X.K ρ F' H' H us ss → R us H') → ta σ H R

section
variable {X : Cx} {K : PySem.W.Frag} {ρ : Env} {F F' F1 F2 : FS} {H H' H1 H2 : Hp} {u : V} {s : SV}
theorem AllR.keep (cp : ∀ a, cellsOf ρ a → H a ≠ none) (x : Ext ρ F1 H1 F2 H2) : ∀ {us : List V} {ss : List SV}, AllR K ρ F1 H1 H us ss → AllR K ρ F2 H2 H us ss
  | [], [], _ => trivial
  | _ :: _, _ :: _, ⟨a, b, c⟩ => ⟨a.keep b cp x, b, AllR.keep cp x c⟩
  | [], _ :: _, h => h.elim
  | _ :: _, [], h => h.elim
theorem AllR.len : ∀ {us : List V} {ss : List SV}, AllR K ρ F H H1 us ss → us.length = ss.length
  | [], [], _ => rfl
  | _ :: _, _ :: _, ⟨_, _, c⟩ => congrArg Nat.succ (AllR.len c)
  | [], _ :: _, h => h.elim
  | _ :: _, [], h => h.elim
/-- what is new at a step further on was new before -/
theorem Fo.back (x : Ext ρ F H F1 H1) (h : Fo ρ H1 u s) : Fo ρ H u s := by
  have nw : ∀ p, H1 p = none → H p = none := fun p e => by
    by_cases z : H p = none
    · exact z
    · exact absurd e (x.st.ex p z)
  cases s with
  | ow c ds => exact fun p e => nw p (h p e)
  | bw c ds => exact h
  | cell a ns => exact h.imp id (nw a)
  | _ => trivial
theorem Res.trans {F2 : FS} {H2 : Hp} (x : Ext ρ F H F1 H1) (r : Res K ρ F1 H1 F2 H2 s u) : Res K ρ F H F2 H2 s u :=
  ⟨x.trans r.toExt, r.sr, r.fo.back x⟩

/-! ### names and constants -/
/-- what reading a name gives: a list of the frame's own is lent -/
def SV.lend : SV → SV
  | .ow c ds => .bw c ds
  | s => s
def vVar (i : Nat) : TV := fun ρ Q => match ρ[i]? with
  | some .un => False
  | none => False
  | some s => Q s.lend
theorem ve_var {e : Expr} {i : Nat} (h : PE X e (tVar i)) : VE X e (vVar i) 0 := by
  refine ⟨_, h, fun B F H σ ρ Q R er bq t k => ?_⟩
  unfold vVar at t
  rcases hs : ρ[i]? with _ | s
  · rw [hs] at t; exact t.elim
  · have hn : s ≠ .un := by
      rintro rfl
      rw [hs] at t; exact t
    obtain ⟨u, h1, h2⟩ := er.sl i s hs hn
    rw [hs] at t
    refine ⟨u, h1, k s.lend u F H (by omega) ?_ ⟨er.refl, ?_, ?_⟩⟩
    · cases s <;> first | exact t | exact absurd rfl hn
    · cases s with
      | ow c ds =>
        obtain ⟨p, us, e, q, _, r⟩ := h2
        exact ⟨p, us, e, q, r⟩
      | _ => exact h2
    · cases s with
      | ow c ds =>
        intro p e
        subst e
        exact (er.fr i c ds p hs h1).2
      | bw c ds => exact absurd hs (er.nb i c ds)
      | cell a ns => exact .inl ⟨i, hs⟩
      | _ => trivial
def vC (d : PyData) : TV := fun _ Q => Q (.v d)
theorem ve_c {e : Expr} {v : V} {d : PyData} (h : PE X e (tC v)) (hr : ∀ F H, R1 X.K F H v d) : VE X e (vC d) 0 :=
  ⟨_, h, fun B F H σ ρ Q R er bq t k => k _ v F H (by omega) t ⟨er.refl, hr F H, trivial⟩⟩
theorem ve_int {i j pos} : VE X (.Constant (.int i) j pos) (vC (.int i)) 0 := ve_c pe_int fun _ _ => .int i
theorem ve_bl {b j pos} : VE X (.Constant (.bool b) j pos) (vC (.bool b)) 0 := ve_c pe_bl fun _ _ => .bl b
theorem ve_non {j pos} : VE X (.Constant .none j pos) (vC .none) 0 := ve_c pe_non fun _ _ => .non
theorem ve_str {x j pos} : VE X (.Constant (.str x) j pos) (vC (.str x)) 0 := ve_c pe_str fun _ _ => .str x

/-! ### what an operation on values leaves -/
structure PRes (K : PySem.W.Frag) (F : FS) (H : Hp) (F' : FS) (H' : Hp) (s : SV) (u : V) : Prop where
  ce : F'.ck ≤ F.ck
  st : Stp (fun _ => False) F F' H H'
  dm : FOk F' H'
  sr : SlotR K F' H' u s
  fo : Fo [] H u s
theorem PRes.res (x : Ext ρ F H F1 H1) (r : PRes K F1 H1 F2 H2 s u) (nb : ∀ c ds, s ≠ .bw c ds) : Res K ρ F H F2 H2 s u := by
  refine ⟨x.pure r.st r.dm, r.sr, Fo.back x ?_⟩
  have fo := r.fo
  cases s with
  | ow c ds => exact fo
  | bw c ds => exact absurd rfl (nb c ds)
  | cell a ns =>
    rcases fo with ⟨i, z⟩ | z
    · simp at z
    · exact .inr z
  | _ => trivial
theorem PRes.same (d : FOk F H) {d' : PyData} (h : R1 K F H u d') : PRes K F H F H (.v d') u := ⟨Nat.le_refl _, Stp.refl, d, h, trivial⟩
theorem PRes.newL {p : Addr} {us : List V} {ds : List PyData} (d : FOk F H) (hp : H p = none) (r : RA K F H us ds) : PRes K F H F (upd H p (.lst us)) (.own ds) (.ref p) := by
  refine ⟨Nat.le_refl _, Stp.new hp, d.new hp, ⟨p, us, rfl, upd_same, fun z => ?_, Rp.mono (Stp.new (M := fun _ => False) (F := F) hp).toFM r⟩, fun q e => ?_⟩
  · obtain ⟨xs, e, _⟩ := d p z
    rw [hp] at e; cases e
  · cases e; exact hp
theorem PRes.newT {p : Addr} {o : Obj} {us : List V} {ds : List PyData} (d : FOk F H) (nd : o.dict = none) (hp : H p = none) (r : RA K F H us ds) : PRes K F H F (upd H p (.frz o (.tup us))) (.v (.tuple ds)) (.ref p) :=
  ⟨Nat.le_refl _, Stp.new hp, d.new hp, .tup (SqN.new nd) (Rp.mono (Stp.new (M := fun _ => False) (F := F) hp).toFM r), trivial⟩

/-- no result of an operation is lent -/
def NoBrw (s : SV) : Prop := ∀ c ds, s ≠ .bw c ds
/-- a two-place operation -/
def OpS (K : PySem.W.Frag) (r : R2) (f : SV → SV → (SV → Prop) → Prop) : Prop := ∀ F H u w a b (Q : SV → Prop) (R : VK), FOk F H → SlotR K F H u a → SlotR K F H w b → f a b Q →
  (∀ s z F' H', Q s → NoBrw s → PRes K F H F' H' s z → R z H') → r u w H R
def vBin (f : SV → SV → (SV → Prop) → Prop) (ta tb : TV) : TV := fun ρ Q => ta ρ fun a => tb ρ fun b => f a b Q
theorem bin_go {κ1 κ2 : Nat} {r : R2} {f : SV → SV → (SV → Prop) → Prop} {ta tb : TV} {tea teb : TE} (hs : OpS X.K r f)
    (ha : RE X ta κ1 tea)
    (hb : RE X tb κ2 teb) :
    RE X (vBin f ta tb) (κ1 + κ2) (tOp r tea teb) := by
  intro B F H σ ρ Q R er bq t k
  refine ha B F H σ ρ _ _ er (by omega) t fun a u F1 H1 c1 q1 r1 => ?_
  refine hb B F1 H1 σ ρ _ _ (er.step r1.toExt) (by omega) q1 fun b w F2 H2 c2 q2 r2 => ?_
  refine hs F2 H2 u w a b Q R r2.dm (r1.sr.keep r1.fo er.refl.cp r2.toExt) r2.sr q2 fun s z F3 H3 q3 nb r3 => ?_
  have c3 := r3.ce
  exact k s z F3 H3 (by omega) q3 (r3.res (r1.toExt.trans r2.toExt) nb)
theorem ve_bin {κ1 κ2 : Nat} {op : Operator} {r : R2} {f : SV → SV → (SV → Prop) → Prop} {ta tb : TV} {a b : Expr} {pos : Pos} (ho : OpR X (binaryOp op) r) (hs : OpS X.K r f) (ha : VE X a ta κ1) (hb : VE X b tb κ2) :
    VE X (.BinOp a op b pos) (vBin f ta tb) (κ1 + κ2) := by
  obtain ⟨tea, pa, ga⟩ := ha
  obtain ⟨teb, pb, gb⟩ := hb
  exact ⟨_, pe_op ho pa pb, bin_go hs ga gb⟩
theorem ve_cmp {κ1 κ2 : Nat} {op : CmpOp} {r : R2} {f : SV → SV → (SV → Prop) → Prop} {ta tb : TV} {a b : Expr} {pos : Pos} (ho : OpR X (compareOp op) r) (hs : OpS X.K r f) (ha : VE X a ta κ1) (hb : VE X b tb κ2)
    (hm : behindInMarks op b = false) : VE X (.Compare a [op] [b] pos) (vBin f ta tb) (κ1 + κ2) := by
  obtain ⟨tea, pa, ga⟩ := ha
  obtain ⟨teb, pb, gb⟩ := hb
  exact ⟨_, pe_cmpR ho pa pb hm, bin_go hs ga gb⟩
theorem ve_ix {κ1 κ2 : Nat} {r : R2} {f : SV → SV → (SV → Prop) → Prop} {ta tb : TV} {a b : Expr} {pos : Pos} (ho : IxR X r) (hs : OpS X.K r f) (ha : VE X a ta κ1) (hb : VE X b tb κ2) (hx : PlainIx b) :
    VE X (.Subscript a b pos) (vBin f ta tb) (κ1 + κ2) := by
  obtain ⟨tea, pa, ga⟩ := ha
  obtain ⟨teb, pb, gb⟩ := hb
  exact ⟨_, pe_ix ho pa pb hx, bin_go hs ga gb⟩

/-! ### tests -/
def vTest (t : TV) : TVb := fun ρ Q => t ρ fun s => ∃ b, s = .v (.bool b) ∧ Q b
theorem bool_of {b : Bool} (h : SlotR K F H u (.v (.bool b))) : u = .bl b := by
  cases (show R1 K F H u (.bool b) from h) with
  | bl b => rfl
theorem vt_cmp {κ1 κ2 : Nat} {op : CmpOp} {r : R2} {f : SV → SV → (SV → Prop) → Prop} {ta tb : TV} {a b : Expr} {pos : Pos} (ho : OpR X (compareOp op) r) (hs : OpS X.K r f) (ha : VE X a ta κ1) (hb : VE X b tb κ2)
    (hm : behindInMarks op b = false) : VT X (.Compare a [op] [b] pos) (vTest (vBin f ta tb)) (κ1 + κ2) := by
  obtain ⟨tea, pa, ga⟩ := ha
  obtain ⟨teb, pb, gb⟩ := hb
  refine ⟨_, pt_cmpR ho pa pb hm, fun B F H σ ρ Q R er bq t k => ?_⟩
  refine bin_go hs ga gb B F H σ ρ _ _ er (by omega) t fun s u F' H' cq ⟨c, e, q⟩ r => ?_
  subst e
  exact ⟨c, bool_of r.sr, k c F' H' (by omega) q r.toExt⟩
theorem vt_val {κ1 : Nat} {e : Expr} {t : TV} (h : VE X e t κ1) (he : ∀ whole, isTrue e X.env whole = (do let v ← whole; standAt e.pos; holding [v] (truthy v))) : VT X e (vTest t) κ1 := by
  obtain ⟨te, pe, g⟩ := h
  refine ⟨_, pt_val pe he, fun B F H σ ρ Q R er bq t k => ?_⟩
  refine g B F H σ ρ _ _ er (by omega) t fun s u F' H' cq ⟨c, e, q⟩ r => ?_
  subst e
  exact ⟨c, bool_of r.sr, k c F' H' (by omega) q r.toExt⟩
theorem vt_not {κ1 : Nat} {e : Expr} {t : TVb} {pos : Pos} (h : VT X e t κ1) : VT X (.UnaryOp .Not e pos) (fun ρ Q => t ρ fun b => Q (!b)) κ1 := by
  obtain ⟨te, pe, g⟩ := h
  exact ⟨_, pt_not pe, fun B F H σ ρ Q R er bq t k => g B F H σ ρ _ _ er (by omega) t fun b F' H' cq q x => k _ F' H' (by omega) q x⟩
theorem vw_pt {κ1 : Nat} {e : Expr} {t : TVb} (h : VW X e t κ1) : VT X e t κ1 := by
  obtain ⟨te, pe, g⟩ := h
  exact ⟨te, pe.pt, g⟩
theorem vw_one {κ1 : Nat} {op : BoolOp} {a : Expr} {t : TVb} {pos : Pos} (h : VT X a t κ1) (hop : op = .And ∨ op = .Or := by first | exact .inl rfl | exact .inr rfl) : VW X (.BoolOp op [a] pos) t κ1 := by
  obtain ⟨te, pe, g⟩ := h
  rcases hop with e | e
  · subst e; exact ⟨te, pw_and1 pe, g⟩
  · subst e; exact ⟨te, pw_or1 pe, g⟩
def vAnd (t u : TVb) : TVb := fun ρ Q => t ρ fun b => if b = true then u ρ Q else Q false
def vOr (t u : TVb) : TVb := fun ρ Q => t ρ fun b => if b = true then Q true else u ρ Q
theorem vw_and {κ1 κ2 : Nat} {a b : Expr} {rest : List Expr} {t u : TVb} {pos : Pos} (ha : VT X a t κ1) (hb : VW X (.BoolOp .And (b :: rest) pos) u κ2) : VW X (.BoolOp .And (a :: b :: rest) pos) (vAnd t u) (κ1 + κ2) := by
  obtain ⟨te, pa, ga⟩ := ha
  obtain ⟨ue, pb, gb⟩ := hb
  refine ⟨_, pw_and pa pb, fun B F H σ ρ Q R er bq t k => ?_⟩
  refine ga B F H σ ρ _ _ er (by omega) t fun b F' H' cq q x => ?_
  cases b with
  | true => exact gb B F' H' σ ρ _ _ (er.step x) (by omega) q fun b2 F2 H2 cq q2 x2 => k _ F2 H2 (by omega) q2 (x.trans x2)
  | false => exact k _ F' H' (by omega) q x
theorem vw_or {κ1 κ2 : Nat} {a b : Expr} {rest : List Expr} {t u : TVb} {pos : Pos} (ha : VT X a t κ1) (hb : VW X (.BoolOp .Or (b :: rest) pos) u κ2) : VW X (.BoolOp .Or (a :: b :: rest) pos) (vOr t u) (κ1 + κ2) := by
  obtain ⟨te, pa, ga⟩ := ha
  obtain ⟨ue, pb, gb⟩ := hb
  refine ⟨_, pw_or pa pb, fun B F H σ ρ Q R er bq t k => ?_⟩
  refine ga B F H σ ρ _ _ er (by omega) t fun b F' H' cq q x => ?_
  cases b with
  | false => exact gb B F' H' σ ρ _ _ (er.step x) (by omega) q fun b2 F2 H2 cq q2 x2 => k _ F2 H2 (by omega) q2 (x.trans x2)
  | true => exact k _ F' H' (by omega) q x
/-- and, or, not as values -/
def isB (s : SV) (P : Bool → Prop) : Prop := ∃ b, s = .v (.bool b) ∧ P b
def vAndV (t u : TV) : TV := fun ρ Q => t ρ fun s => isB s fun b => if b = true then u ρ Q else Q (.v (.bool false))
def vOrV (t u : TV) : TV := fun ρ Q => t ρ fun s => isB s fun b => if b = true then Q (.v (.bool true)) else u ρ Q
def vNotV (t : TV) : TV := fun ρ Q => t ρ fun s => isB s fun b => Q (.v (.bool (!b)))
theorem ve_one {κ1 : Nat} {op : BoolOp} {a : Expr} {t : TV} {pos : Pos} (h : VE X a t κ1) : VE X (.BoolOp op [a] pos) t κ1 := by
  obtain ⟨te, pe, g⟩ := h
  exact ⟨te, pe_one pe, g⟩
theorem ve_and {κ1 κ2 : Nat} {a b : Expr} {rest : List Expr} {t u : TV} {pos : Pos} (ha : VE X a t κ1) (hb : VE X (.BoolOp .And (b :: rest) pos) u κ2) : VE X (.BoolOp .And (a :: b :: rest) pos) (vAndV t u) (κ1 + κ2) := by
  obtain ⟨te, pa, ga⟩ := ha
  obtain ⟨ue, pb, gb⟩ := hb
  refine ⟨_, pe_and pa pb, fun B F H σ ρ Q R er bq t k => ?_⟩
  refine ga B F H σ ρ _ _ er (by omega) t fun s v F' H' cq ⟨b, e, q⟩ x => ?_
  subst e
  refine ⟨b, bool_of x.sr, ?_⟩
  cases b with
  | true => exact gb B F' H' σ ρ _ _ (er.step x.toExt) (by omega) q fun s2 u2 F2 H2 cq q2 x2 => k _ _ F2 H2 (by omega) q2 (x2.trans x.toExt)
  | false => exact k _ _ F' H' (by omega) q ⟨x.toExt, .bl false, trivial⟩
theorem ve_or {κ1 κ2 : Nat} {a b : Expr} {rest : List Expr} {t u : TV} {pos : Pos} (ha : VE X a t κ1) (hb : VE X (.BoolOp .Or (b :: rest) pos) u κ2) : VE X (.BoolOp .Or (a :: b :: rest) pos) (vOrV t u) (κ1 + κ2) := by
  obtain ⟨te, pa, ga⟩ := ha
  obtain ⟨ue, pb, gb⟩ := hb
  refine ⟨_, pe_or pa pb, fun B F H σ ρ Q R er bq t k => ?_⟩
  refine ga B F H σ ρ _ _ er (by omega) t fun s v F' H' cq ⟨b, e, q⟩ x => ?_
  subst e
  refine ⟨b, bool_of x.sr, ?_⟩
  cases b with
  | false => exact gb B F' H' σ ρ _ _ (er.step x.toExt) (by omega) q fun s2 u2 F2 H2 cq q2 x2 => k _ _ F2 H2 (by omega) q2 (x2.trans x.toExt)
  | true => exact k _ _ F' H' (by omega) q ⟨x.toExt, .bl true, trivial⟩
theorem ve_not {κ1 : Nat} {a : Expr} {t : TV} {pos : Pos} (h : VE X a t κ1) : VE X (.UnaryOp .Not a pos) (vNotV t) κ1 := by
  obtain ⟨te, pe, g⟩ := h
  refine ⟨_, pe_not pe, fun B F H σ ρ Q R er bq t k => ?_⟩
  refine g B F H σ ρ _ _ er (by omega) t fun s v F' H' cq ⟨b, e, q⟩ x => ?_
  subst e
  exact ⟨b, bool_of x.sr, k _ _ F' H' (by omega) q ⟨x.toExt, .bl _, trivial⟩⟩
def vIf (c : TVb) (t u : TV) : TV := fun ρ Q => c ρ fun b => if b = true then t ρ Q else u ρ Q
theorem ve_if {κ1 κ2 κ3 : Nat} {c a b : Expr} {tc : TVb} {t u : TV} {pos : Pos} (hc : VT X c tc κ1) (ha : VE X a t κ2) (hb : VE X b u κ3) : VE X (.IfExp c a b pos) (vIf tc t u) (κ1 + κ2 + κ3) := by
  obtain ⟨tce, pc, gc⟩ := hc
  obtain ⟨te, pa, ga⟩ := ha
  obtain ⟨ue, pb, gb⟩ := hb
  refine ⟨_, pe_ifExp pc pa pb, fun B F H σ ρ Q R er bq t k => ?_⟩
  refine gc B F H σ ρ _ _ er (by omega) t fun b F' H' cq q x => ?_
  cases b with
  | true => exact ga B F' H' σ ρ _ _ (er.step x) (by omega) q fun s2 u2 F2 H2 cq q2 x2 => k _ _ F2 H2 (by omega) q2 (x2.trans x)
  | false => exact gb B F' H' σ ρ _ _ (er.step x) (by omega) q fun s2 u2 F2 H2 cq q2 x2 => k _ _ F2 H2 (by omega) q2 (x2.trans x)

/-! ### rows of expressions -/
def vNil : TVs := fun _ Q => Q []
def vCons (t : TV) (r : TVs) : TVs := fun ρ Q => t ρ fun s => r ρ fun ss => Q (s :: ss)
theorem va_nil : VA X [] vNil 0 := ⟨_, pa_nil, fun B F H σ ρ Q R er bq t k => k [] [] F H (by omega) t er.refl trivial⟩
theorem va_cons {κ1 κ2 : Nat} {e : Expr} {es : List Expr} {t : TV} {r : TVs} (h : VE X e t κ1) (hr : VA X es r κ2) (hs : starEach (e :: es) X.env = (false, eval e X.env) :: starEach es X.env) : VA X (e :: es) (vCons t r) (κ1 + κ2) := by
  obtain ⟨te, pe, g⟩ := h
  obtain ⟨ta, pa, ga⟩ := hr
  refine ⟨_, pa_cons pe pa hs, fun B F H σ ρ Q R er bq t k => ?_⟩
  refine g B F H σ ρ _ _ er (by omega) t fun s u F1 H1 cq q1 r1 => ?_
  refine ga B F1 H1 σ ρ _ _ (er.step r1.toExt) (by omega) q1 fun ss us F2 H2 cq q2 x2 a2 => ?_
  refine k (s :: ss) (u :: us) F2 H2 (by omega) q2 (r1.toExt.trans x2) ⟨r1.sr.keep r1.fo er.refl.cp x2, r1.fo, ?_⟩
  clear k q2 q1
  induction us generalizing ss with
  | nil =>
    cases ss with
    | nil => trivial
    | cons _ _ => exact a2.elim
  | cons v vs ih =>
    cases ss with
    | nil => exact a2.elim
    | cons z zs => exact ⟨a2.1, a2.2.1.back r1.toExt, ih zs a2.2.2⟩
/-- what is stored, handed on: data, the feed; a list of one's own is frozen then -/
def CT.fro : CT → List PyData → SV
  | .lst, ds => .v (.list ds)
  | .K ks, ds => .v (.dict ((ks.zip ds).map fun kv => (kD kv.1, kv.2)))
  | .T ks, ds => .fz ks ds
theorem CT.fro_ow {c c' : CT} {ds es : List PyData} : c.fro ds ≠ .ow c' es := by cases c <;> exact fun z => nomatch z
theorem CT.fro_bw {c c' : CT} {ds es : List PyData} : c.fro ds ≠ .bw c' es := by cases c <;> exact fun z => nomatch z
theorem CT.fro_cell {c : CT} {ds : List PyData} {a : Addr} {ns : Cel} : c.fro ds ≠ .cell a ns := by cases c <;> exact fun z => nomatch z
theorem CT.fro_sl {c : CT} {ds : List PyData} {us : List V} {p : Addr} (f : F p) (q : H p = some (c.ho us)) (r : RA K F H us ds) : SlotR K F H (.ref p) (c.fro ds) := by
  cases c with
  | lst => exact .lst f q r
  | K ks => exact .dic f q r
  | T ks => exact ⟨p, us, rfl, f, q, r⟩
def SV.hand : SV → Option SV
  | .v d => some (.v d)
  | .ow c ds => some (c.fro ds)
  | .fz ks ds => some (.fz ks ds)
  | .cell a ns => some (.cell a ns)
  | .scr ns => some (.scr ns)
  | .dct kvs => some (.dct kvs)
  | .fns kvs => some (.fns kvs)
  | _ => none
def hands : List SV → Option (List SV)
  | [] => some []
  | s :: ss => match s.hand, hands ss with
    | some t, some ts => some (t :: ts)
    | _, _ => none
/-- the addresses of one's own lists -/
def ownsIn : List V → List SV → Addr → Prop
  | .ref p :: us, .ow _ _ :: ss => fun a => a = p ∨ ownsIn us ss a
  | _ :: us, _ :: ss => ownsIn us ss
  | _, _ => fun _ => False
theorem ownsIn_sub {us : List V} {ss : List SV} {u : V} {s : SV} {a : Addr} (h : ownsIn us ss a) : ownsIn (u :: us) (s :: ss) a := by
  cases u <;> cases s <;> first | exact h | exact .inr h
theorem AllR.owns : ∀ {us : List V} {ss : List SV}, AllR K ρ F H1 H us ss → ∀ a, ownsIn us ss a → H a = none ∧ ∃ o, H1 a = some o ∧ LD o
  | [], _, _, a, h => by cases ‹List SV› <;> exact h.elim
  | _ :: _, [], h, _, _ => h.elim
  | u :: us, s :: ss, ⟨h1, h2, h3⟩, a, h => by
    have old : ownsIn us ss a → H a = none ∧ ∃ o, H1 a = some o ∧ LD o := AllR.owns h3 a
    cases s with
    | ow c ds =>
      obtain ⟨p, xs, rfl, e, _⟩ := h1
      rcases h with rfl | h
      · exact ⟨h2 _ rfl, _, e, c.ld xs⟩
      · exact old h
    | fz ks ds => exact old (by cases u <;> exact h)
    | un => exact old (by cases u <;> exact h)
    | v d => exact old (by cases u <;> exact h)
    | bw c ds => exact old (by cases u <;> exact h)
    | cell b ns => exact old (by cases u <;> exact h)
    | scr ns => exact old (by cases u <;> exact h)
    | dct kvs => exact old (by cases u <;> exact h)
    | fns kvs => exact old (by cases u <;> exact h)
/-- slots of things that were handed on -/
def AllH (K : PySem.W.Frag) (F : FS) (H : Hp) : List V → List SV → Prop
  | [], [] => True
  | u :: us, s :: ss => SlotR K F H u s ∧ AllH K F H us ss
  | _, _ => False
theorem SlotR.grow {N : Addr → Prop} (hn : ∀ a, N a → ¬ cellsOf ρ a ∧ H a = none) (cp : ∀ (i : Nat) (a : Addr) (ns : Cel), ρ[i]? = some (SV.cell a ns) → CI F1 H1 a ns) (h : SlotR K F1 H1 u s) (fo : Fo ρ H u s) {t : SV} (e : s.hand = some t)
    (ho : ∀ c ds p, s = .ow c ds → u = .ref p → N p) (hc : ∀ a ns, s = .cell a ns → ¬ N a) : SlotR K (F1.or N) H1 u t := by
  cases s with
  | un => cases e
  | v d => cases e; exact Rp.mono FM.grow h
  | ow c ds =>
    cases e
    obtain ⟨p, us, rfl, q, _, r⟩ := h
    exact CT.fro_sl (F := F1.or N) (.inr (ho c ds p rfl rfl)) q (Rp.mono FM.grow r)
  | fz ks ds =>
    cases e
    obtain ⟨p, us, rfl, f, q, r⟩ := h
    exact ⟨p, us, rfl, .inl f, q, Rp.mono FM.grow r⟩
  | bw c ds => cases e
  | cell a ns =>
    cases e
    obtain ⟨rfl, nf, c, i, l, n, e1, e2, e3⟩ := h
    exact ⟨rfl, fun z => z.elim nf (hc a ns rfl), c, i, l, n, e1, .inl e2, e3⟩
  | scr ns =>
    cases e
    exact h
  | dct kvs =>
    cases e
    obtain ⟨p, us, rfl, f, k, r⟩ := h
    exact ⟨p, us, rfl, f.mono FM.grow, k, Rp.mono FM.grow r⟩
  | fns kvs =>
    cases e
    obtain ⟨p, rfl, f, q⟩ := h
    exact ⟨p, rfl, .inl f, q⟩
/-- handing on: the new lists among them are frozen -/
theorem hand_all (x : Ext ρ F H F1 H1) : ∀ {us : List V} {ss : List SV} {ts : List SV} {N : Addr → Prop} (_ : AllR K ρ F1 H1 H us ss) (_ : hands ss = some ts)
    (_ : ∀ a, N a → H a = none ∧ ∃ o, H1 a = some o ∧ LD o) (_ : ∀ a, ownsIn us ss a → N a) (_ : ∀ a ns, SV.cell a ns ∈ ss → ¬ N a), AllH K (F1.or N) H1 us ts
  | [], [], ts, N, _, e, _, _, _ => by cases e; trivial
  | [], _ :: _, _, _, h, _, _, _, _ => h.elim
  | _ :: _, [], _, _, h, _, _, _, _ => h.elim
  | u :: us, s :: ss, ts, N, ⟨h1, h2, h3⟩, e, hN, ho, hc => by
    unfold hands at e
    rcases e1 : s.hand with _ | t
    · rw [e1] at e; cases e
    · rcases e2 : hands ss with _ | ts'
      · rw [e1, e2] at e; cases e
      · rw [e1, e2] at e
        cases e
        refine ⟨SlotR.grow (ρ := ρ) (H := H) (fun a z => ⟨fun q => x.cp a q (hN a z).1, (hN a z).1⟩) x.cl h1 h2 e1 (fun c ds p q1 q2 => ?_) (fun a ns q z => ?_), hand_all x h3 e2 hN (fun a z => ho a (ownsIn_sub z)) fun a ns z => hc a ns (List.mem_cons_of_mem _ z)⟩
        · subst q1 q2
          exact ho p (.inl rfl)
        · subst q
          exact hc a ns (List.mem_cons_self ..) z
theorem Ext.frz {N : Addr → Prop} (x : Ext ρ F H F1 H1) (hN : ∀ a, N a → H a = none ∧ ∃ o, H1 a = some o ∧ LD o) : Ext ρ F H (F1.or N) H1 :=
  ⟨x.st.frz fun a z => (hN a z).1, fun a z => z.elim (x.dm a) fun q => (hN a q).2, fun i a ns h => by
    obtain ⟨nf, c, j, l, n, e1, e2, e3⟩ := x.cl i a ns h
    refine ⟨fun z => z.elim nf fun q => x.cp a ⟨i, ns, h⟩ (hN a q).1, c, j, l, n, e1, .inl e2, e3⟩, x.cp⟩
/-- all data -/
def datas : List SV → Option (List PyData)
  | [] => some []
  | .v d :: ss => (datas ss).map (d :: ·)
  | _ :: _ => none
theorem AllH.ra : ∀ {us : List V} {ts : List SV} {ds : List PyData}, AllH K F H us ts → datas ts = some ds → RA K F H us ds
  | [], [], _, _, e => by cases e; exact .nil
  | [], _ :: _, _, h, _ => h.elim
  | _ :: _, [], _, h, _ => h.elim
  | u :: us, .v d :: ts, _, ⟨h1, h2⟩, e => by
    unfold datas at e
    rcases e2 : datas ts with _ | ds
    · rw [e2] at e; cases e
    · rw [e2] at e
      cases e
      exact .cons h1 (AllH.ra h2 e2)
  | _ :: _, .un :: _, _, _, e => by cases e
  | _ :: _, .ow _ _ :: _, _, _, e => by cases e
  | _ :: _, .bw _ _ :: _, _, _, e => by cases e
  | _ :: _, .fz _ _ :: _, _, _, e => by cases e
  | _ :: _, .cell _ _ :: _, _, _, e => by cases e
  | _ :: _, .scr _ :: _, _, _, e => by cases e
  | _ :: _, .dct _ :: _, _, _, e => by cases e
  | _ :: _, .fns _ :: _, _, _, e => by cases e
def datasIn (ss : List SV) : Option (List PyData) := (hands ss).bind datas
theorem datas_noc : ∀ {ss ts : List SV} {ds : List PyData}, hands ss = some ts → datas ts = some ds → ∀ a ns, SV.cell a ns ∉ ss
  | [], _, _, _, _, _, _, h => by cases h
  | s :: ss, ts, ds, e, e2, a, ns, h => by
    unfold hands at e
    rcases e1 : s.hand with _ | t
    · rw [e1] at e; cases e
    · rcases e3 : hands ss with _ | ts'
      · rw [e1, e3] at e; cases e
      · rw [e1, e3] at e
        cases e
        cases t <;> first | (cases e2; done) | skip
        rename_i d
        unfold datas at e2
        rcases e4 : datas ts' with _ | ds'
        · rw [e4] at e2; cases e2
        · rcases List.mem_cons.mp h with h | h
          · subst h
            cases e1
          · exact datas_noc e3 e4 a ns h
theorem data_all (x : Ext ρ F H F1 H1) {us : List V} {ss : List SV} {ds : List PyData} (h : AllR K ρ F1 H1 H us ss) (e : datasIn ss = some ds) :
    ∃ F2, F2.ck = F1.ck ∧ Ext ρ F H F2 H1 ∧ RA K F2 H1 us ds := by
  unfold datasIn at e
  rcases e1 : hands ss with _ | ts
  · rw [e1] at e; cases e
  · rw [e1] at e
    have hN := AllR.owns h
    exact ⟨F1.or (ownsIn us ss), rfl, x.frz hN, (hand_all x h e1 hN (fun a z => z) fun a ns z => absurd z (datas_noc e1 e a _)).ra e⟩
/-- (a, b, ..) -/
def vTup (t : TVs) : TV := fun ρ Q => t ρ fun ss => ∃ ds, datasIn ss = some ds ∧ ds.length ≤ 100000 ∧ Q (.v (.tuple ds))
def vLst (t : TVs) : TV := fun ρ Q => t ρ fun ss => ∃ ds, datasIn ss = some ds ∧ ds.length ≤ 100000 ∧ Q (.own ds)
theorem small {n : Nat} (h : n ≤ 100000) : n ≤ sizeLine := Nat.le_trans h (by decide)
theorem ve_tup {κ1 : Nat} {es : List Expr} {t : TVs} {c} {pos : Pos} (h : VA X es t κ1) : VE X (.Tuple es c pos) (vTup t) κ1 := by
  obtain ⟨ta, pa, g⟩ := h
  refine ⟨_, pe_tupN pa, fun B F H σ ρ Q R er bq t k => ?_⟩
  refine g B F H σ ρ _ _ er (by omega) t fun ss us F1 H1 cq ⟨ds, e, hz, q⟩ x a => ?_
  obtain ⟨F2, ce, x2, ra⟩ := data_all x a e
  exact ⟨small (by rw [ra.len]; exact hz), fun p o nd hp => k _ _ _ _ (by omega) q ((PRes.newT x2.dm nd hp ra).res x2 fun _ _ z => nomatch z)⟩
theorem ve_lst {κ1 : Nat} {es : List Expr} {t : TVs} {pos : Pos} (h : VA X es t κ1) : VE X (.List es pos) (vLst t) κ1 := by
  obtain ⟨ta, pa, g⟩ := h
  refine ⟨_, pe_lst pa, fun B F H σ ρ Q R er bq t k => ?_⟩
  refine g B F H σ ρ _ _ er (by omega) t fun ss us F1 H1 cq ⟨ds, e, hz, q⟩ x a => ?_
  obtain ⟨F2, ce, x2, ra⟩ := data_all x a e
  exact ⟨small (by rw [ra.len]; exact hz), fun p hp => k _ _ _ _ (by omega) q ((PRes.newL x2.dm hp ra).res x2 fun _ _ z => nomatch z)⟩
end
end VL
namespace VL
open PySem PySem.Spec PyProof.Rows L2 VG

section
variable {K : PySem.W.Frag} {B : Bas} {F F' : FS} {H H' : Hp} {σ : Hs} {ρ : Env} {s : SV} {u : V}
theorem getElem?_set_eq {α : Type} {l : List α} {i : Nat} {a b : α} (h : (l.set i a)[i]? = some b) : b = a := by
  rw [List.getElem?_set_self'] at h
  rcases e : l[i]? with _ | x
  · rw [e] at h; simp at h
  · rw [e] at h; simp at h; exact h.symm
theorem cells_set {i : Nat} {a : Addr} (h : cellsOf (ρ.set i s) a) : cellsOf ρ a ∨ ∃ ns, s = .cell a ns := by
  obtain ⟨j, ns, e⟩ := h
  by_cases z : j = i
  · subst z
    exact .inr ⟨ns, (getElem?_set_eq e).symm⟩
  · rw [List.getElem?_set_ne (Ne.symm z)] at e
    exact .inl ⟨j, ns, e⟩
/-- a result is stored in a slot -/
theorem ER.set (er : ER K B F H σ ρ) {F' : FS} {H' : Hp} (x : Res K ρ F H F' H' s u) (nb : NoBrw s) (i : Nat) : ER K B F' H' (σ.set i (some u)) (ρ.set i s) := by
  have e1 := er.step x.toExt
  have hlen := er.len
  have at_ : ∀ {j : Nat} {t : SV}, (ρ.set i s)[j]? = some t → (j = i ∧ t = s ∧ i < ρ.length) ∨ (j ≠ i ∧ ρ[j]? = some t) := fun {j t} h => by
    by_cases z : j = i
    · subst z
      refine .inl ⟨rfl, getElem?_set_eq h, ?_⟩
      have := (List.getElem?_eq_some_iff.mp h).1
      simpa using this
    · rw [List.getElem?_set_ne (Ne.symm z)] at h
      exact .inr ⟨z, h⟩
  have at2 : ∀ {j : Nat}, j ≠ i → (σ.set i (some u))[j]? = σ[j]? := fun {j} z => List.getElem?_set_ne (Ne.symm z)
  have at1 : i < ρ.length → (σ.set i (some u))[i]? = some (some u) := fun z => List.getElem?_set_self (by omega)
  have newp : ∀ c ds p, s = .ow c ds → u = .ref p → H p = none := fun c ds p e z => by
    subst e
    exact x.fo p z
  refine ⟨by simp [hlen], fun j t h hn => ?_, fun j c ds h => ?_, fun j k c c' ds es p h1 h2 h3 h4 => ?_, fun j c ds p h1 h2 => ?_, fun a h => ?_, e1.bs, e1.kb, e1.pin, e1.dm⟩
  · rcases at_ h with ⟨rfl, rfl, z⟩ | ⟨z, q⟩
    · exact ⟨u, at1 z, x.sr⟩
    · obtain ⟨w, q1, q2⟩ := e1.sl j t q hn
      exact ⟨w, (at2 z).trans q1, q2⟩
  · rcases at_ h with ⟨_, q, _⟩ | ⟨z, q⟩
    · exact nb c ds q.symm
    · exact er.nb j c ds q
  · rcases at_ h1 with ⟨rfl, q1, z1⟩ | ⟨z1, q1⟩ <;> rcases at_ h2 with ⟨rfl, q2, z2⟩ | ⟨z2, q2⟩
    · rfl
    · rw [at1 z1] at h3
      rw [at2 z2] at h4
      have hp := newp c ds p q1.symm (by injection h3 with h3; injection h3)
      obtain ⟨w, q3, p', us, q4, q5, _⟩ := er.sl k _ q2 (fun z => nomatch z)
      rw [q3] at h4
      injection h4 with h4; injection h4 with h4; subst h4
      injection q4 with q4; subst q4
      rw [hp] at q5; cases q5
    · rw [at1 z2] at h4
      rw [at2 z1] at h3
      have hp := newp c' es p q2.symm (by injection h4 with h4; injection h4)
      obtain ⟨w, q3, p', us, q4, q5, _⟩ := er.sl j _ q1 (fun z => nomatch z)
      rw [q3] at h3
      injection h3 with h3; injection h3 with h3; subst h3
      injection q4 with q4; subst q4
      rw [hp] at q5; cases q5
    · rw [at2 z1] at h3
      rw [at2 z2] at h4
      exact er.ow j k c c' ds es p q1 q2 h3 h4
  · have cellsN : ∀ {q : Addr}, cellsOf (ρ.set i s) q → H q = none → (∃ ns, s = .cell q ns) := fun {q} c n => by
      rcases cells_set c with c | c
      · exact absurd n (x.cp q c)
      · exact c
    rcases at_ h1 with ⟨rfl, q1, z1⟩ | ⟨z1, q1⟩
    · rw [at1 z1] at h2
      have hp := newp c ds p q1.symm (by injection h2 with h2; injection h2)
      refine ⟨?_, fun c => ?_⟩
      · by_cases z : B.H0 p = none
        · exact z
        · exact absurd hp (er.bs.ex p z)
      · obtain ⟨ns, e⟩ := cellsN c hp
        rw [← q1] at e; cases e
    · rw [at2 z1] at h2
      obtain ⟨f1, f2⟩ := er.fr j c ds p q1 h2
      refine ⟨f1, fun c => ?_⟩
      rcases cells_set c with c | ⟨ns, e⟩
      · exact f2 c
      · subst e
        rcases x.fo with ⟨k, q⟩ | q
        · exact f2 ⟨k, ns, q⟩
        · obtain ⟨w, q3, p', us, q4, q5, _⟩ := er.sl j _ q1 (fun z => nomatch z)
          rw [q3] at h2
          injection h2 with h2; injection h2 with h2; subst h2
          injection q4 with q4; subst q4
          rw [q] at q5; cases q5
  · rcases cells_set h with c | ⟨ns, e⟩
    · exact er.cf a c
    · subst e
      rcases x.fo with ⟨k, q⟩ | q
      · exact er.cf a ⟨k, ns, q⟩
      · refine .inr ?_
        by_cases z : B.H0 a = none
        · exact z
        · exact absurd q (er.bs.ex a z)
/-- a list of one's own changes -/
theorem FM.write {c c' : CT} {p : Addr} {us vs : List V} (hp : H p = some (c.ho us)) (nf : ¬ F p) : FM F F H (upd H p (c'.ho vs)) := by
  have k : ∀ a o, a ≠ p → H a = some o → upd H p (c'.ho vs) a = some o := fun a o n e => by rw [upd_ne n]; exact e
  refine ⟨fun _ h => h, fun a o f e => k a o (fun z => nf (z ▸ f)) e, fun a xs e => k a _ (fun z => ?_) e, fun a o u e => k a _ (fun z => ?_) e⟩
  · rw [z, hp] at e; exact c.nt _ _ (Option.some.inj e)
  · rw [z, hp] at e; exact c.nf _ _ _ (Option.some.inj e)
theorem ER.own (er : ER K B F H σ ρ) {i : Nat} {c : CT} {ds : List PyData} (h : ρ[i]? = some (.ow c ds)) : ∃ p us, σ[i]? = some (some (.ref p)) ∧ H p = some (c.ho us) ∧ ¬ F p ∧ RA K F H us ds := by
  obtain ⟨u, h1, p, us, rfl, h2, h3, h4⟩ := er.sl i _ h (fun z => nomatch z)
  exact ⟨p, us, h1, h2, h3, h4⟩
theorem ER.write (er : ER K B F H σ ρ) {i : Nat} {c0 c1 : CT} {ds es : List PyData} {p : Addr} {us vs : List V} (h : ρ[i]? = some (.ow c0 ds)) (h1 : σ[i]? = some (some (.ref p))) (h2 : H p = some (c0.ho us)) (nf : ¬ F p)
    (r : RA K F H vs es) : ER K B F (upd H p (c1.ho vs)) σ (ρ.set i (.ow c1 es)) := by
  have m : FM F F H (upd H p (c1.ho vs)) := FM.write h2 nf
  have ne : ∀ {j : Nat} {t : SV}, (ρ.set i (.ow c1 es))[j]? = some t → (j = i ∧ t = .ow c1 es) ∨ (j ≠ i ∧ ρ[j]? = some t) := fun {j t} h => by
    by_cases z : j = i
    · subst z
      exact .inl ⟨rfl, getElem?_set_eq h⟩
    · rw [List.getElem?_set_ne (Ne.symm z)] at h
      exact .inr ⟨z, h⟩
  have own_of : ∀ {j : Nat} {c : CT} {xs : List PyData}, (ρ.set i (.ow c1 es))[j]? = some (.ow c xs) → ∃ c' ys, ρ[j]? = some (.ow c' ys) := fun {j c xs} q => by
    rcases ne q with ⟨rfl, _⟩ | ⟨_, q⟩
    · exact ⟨_, _, h⟩
    · exact ⟨_, _, q⟩
  have cells : ∀ {a : Addr}, cellsOf (ρ.set i (.ow c1 es)) a → cellsOf ρ a := fun {a} c => (cells_set c).elim id fun ⟨ns, e⟩ => nomatch e
  obtain ⟨fr1, fr2⟩ := er.fr i c0 ds p h h1
  have ci : ∀ {a : Addr} {ns : Cel}, CI F H a ns → a ≠ p → CI F (upd H p (c1.ho vs)) a ns := fun {a ns} c n1 => by
    obtain ⟨nf', c', j, l, n, e1, e2, e3, cb⟩ := c
    exact ⟨nf', c', j, l, n, by rw [upd_ne n1]; exact e1, e2, m.fk _ _ e2 e3, cb⟩
  have c1 : ∀ {j : Nat} {a : Addr} {ns : Cel}, ρ[j]? = some (.cell a ns) → a ≠ p := fun {j a ns} q z => fr2 (by rw [← z]; exact ⟨j, ns, q⟩)
  have c2 : ∀ {a : Addr} {ns : Cel}, B.c0 a ns → a ≠ p := fun {a ns} q z => (er.kb a ns q).2 (by rw [z]; exact fr1)
  refine ⟨by simp [er.len], fun j t q hn => ?_, fun j c xs q => ?_, fun j k c c' xs ys a q1 q2 q3 q4 => ?_, fun j c xs a q1 q2 => ?_, fun a c => er.cf a (cells c), ?_, fun a ns q => ⟨ci (er.kb a ns q).1 (c2 q), (er.kb a ns q).2⟩, fun a o q => ?_, fun a f => ?_⟩
  · rcases ne q with ⟨rfl, rfl⟩ | ⟨z, q⟩
    · exact ⟨_, h1, p, vs, rfl, upd_same, nf, Rp.mono m r⟩
    · obtain ⟨w, q1, q2⟩ := er.sl j t q hn
      refine ⟨w, q1, ?_⟩
      cases t with
      | un => trivial
      | v d => exact Rp.mono m q2
      | ow c xs =>
        obtain ⟨a, ws, rfl, q3, q4, q5⟩ := q2
        have n1 : a ≠ p := fun e => z (er.ow j i c c0 xs ds p q h (e ▸ q1) h1)
        exact ⟨a, ws, rfl, by rw [upd_ne n1]; exact q3, q4, Rp.mono m q5⟩
      | fz ks ds =>
        obtain ⟨a, us, rfl, f, q3, q4⟩ := q2
        exact ⟨a, us, rfl, m.fr _ f, m.fk _ _ f q3, Rp.mono m q4⟩
      | bw c xs => exact absurd q (er.nb j c xs)
      | cell a ns => exact ⟨q2.1, ci q2.2 (c1 q)⟩
      | scr ns =>
        obtain ⟨a, rfl, q3⟩ := q2
        exact ⟨a, rfl, q3.keep m⟩
      | dct kvs =>
        obtain ⟨a, us, rfl, f, k, q4⟩ := q2
        exact ⟨a, us, rfl, f.mono m, k, Rp.mono m q4⟩
      | fns kvs =>
        obtain ⟨a, rfl, f, q3⟩ := q2
        exact ⟨a, rfl, m.fr _ f, m.fk _ _ f q3⟩
  · rcases ne q with ⟨_, e⟩ | ⟨_, q⟩
    · cases e
    · exact er.nb j c xs q
  · obtain ⟨_, _, q1⟩ := own_of q1
    obtain ⟨_, _, q2⟩ := own_of q2
    exact er.ow j k _ _ _ _ a q1 q2 q3 q4
  · obtain ⟨_, _, q1⟩ := own_of q1
    obtain ⟨f1, f2⟩ := er.fr j _ _ a q1 q2
    exact ⟨f1, fun c => f2 (cells c)⟩
  · have b := er.bs
    refine ⟨b.toFM.trans m, fun a o q c => ?_, fun a q => ?_, b.nw, b.ck⟩
    · have n1 : a ≠ p := fun z => by rw [z, fr1] at q; cases q
      rw [upd_ne n1]
      exact b.kp a o q c
    · by_cases z : a = p
      · rw [z, upd_same]; exact fun z => nomatch z
      · rw [upd_ne z]; exact b.ex a q
  · obtain ⟨q1, q2⟩ := er.pin a o q
    refine ⟨?_, q2⟩
    have n1 : a ≠ p := fun z => by
      subst z
      rw [h2] at q1
      have e := Option.some.inj q1
      subst e
      rcases q2 with f | ⟨_, e⟩ | ⟨_, _, e⟩
      · exact nf f
      · exact c0.nt _ _ e
      · exact c0.nf _ _ _ e
    rw [upd_ne n1]; exact q1
  · obtain ⟨xs, e, l⟩ := er.dm a f
    exact ⟨xs, m.fk a _ f e, l⟩
/-- a list of one's own is frozen -/
theorem ER.freeze (er : ER K B F H σ ρ) {i : Nat} {c0 : CT} {ds : List PyData} (h : ρ[i]? = some (.ow c0 ds)) : ∃ F', F'.ck = F.ck ∧ ER K B F' H σ (ρ.set i (c0.fro ds)) := by
  obtain ⟨p, us, h1, h2, nf, r⟩ := er.own h
  obtain ⟨fr1, fr2⟩ := er.fr i c0 ds p h h1
  have m : FM F (F.or (fun x => x = p)) H H := FM.grow
  have ne : ∀ {j : Nat} {t : SV}, (ρ.set i (c0.fro ds))[j]? = some t → (j = i ∧ t = c0.fro ds) ∨ (j ≠ i ∧ ρ[j]? = some t) := fun {j t} h => by
    by_cases z : j = i
    · subst z
      exact .inl ⟨rfl, getElem?_set_eq h⟩
    · rw [List.getElem?_set_ne (Ne.symm z)] at h
      exact .inr ⟨z, h⟩
  have own_of : ∀ {j : Nat} {c : CT} {xs : List PyData}, (ρ.set i (c0.fro ds))[j]? = some (.ow c xs) → j ≠ i ∧ ρ[j]? = some (.ow c xs) := fun {j c xs} q => by
    rcases ne q with ⟨rfl, e⟩ | q
    · exact absurd e.symm CT.fro_ow
    · exact q
  have cells : ∀ {a : Addr}, cellsOf (ρ.set i (c0.fro ds)) a → cellsOf ρ a := fun {a} c => (cells_set c).elim id fun ⟨ns, e⟩ => absurd e CT.fro_cell
  have ci : ∀ {a : Addr} {ns : Cel}, CI F H a ns → a ≠ p → CI (F.or fun x => x = p) H a ns := fun {a ns} c n1 => by
    obtain ⟨nf', c', j, l, n, e1, e2, e3, cb⟩ := c
    exact ⟨fun z => z.elim nf' n1, c', j, l, n, e1, .inl e2, e3, cb⟩
  have c1 : ∀ {j : Nat} {a : Addr} {ns : Cel}, ρ[j]? = some (.cell a ns) → a ≠ p := fun {j a ns} q z => fr2 (by rw [← z]; exact ⟨j, ns, q⟩)
  have c2 : ∀ {a : Addr} {ns : Cel}, B.c0 a ns → a ≠ p := fun {a ns} q z => (er.kb a ns q).2 (by rw [z]; exact fr1)
  refine ⟨F.or (fun x => x = p), rfl, ⟨by simp [er.len], fun j t q hn => ?_, fun j c xs q => ?_, fun j k c c' xs ys a q1 q2 q3 q4 => ?_, fun j c xs a q1 q2 => ?_, fun a c => er.cf a (cells c), ?_, fun a ns q => ⟨ci (er.kb a ns q).1 (c2 q), (er.kb a ns q).2⟩, fun a o q => ?_, fun a f => ?_⟩⟩
  · rcases ne q with ⟨rfl, rfl⟩ | ⟨z, q⟩
    · exact ⟨_, h1, CT.fro_sl (F := F.or (fun x => x = p)) (.inr rfl) h2 (Rp.mono m r)⟩
    · obtain ⟨w, q1, q2⟩ := er.sl j t q hn
      refine ⟨w, q1, ?_⟩
      cases t with
      | un => trivial
      | v d => exact Rp.mono m q2
      | ow c xs =>
        obtain ⟨a, ws, rfl, q3, q4, q5⟩ := q2
        have n1 : a ≠ p := fun e => z (er.ow j i c c0 xs ds p q h (e ▸ q1) h1)
        exact ⟨a, ws, rfl, q3, fun z => z.elim q4 n1, Rp.mono m q5⟩
      | fz ks ds =>
        obtain ⟨a, us, rfl, f, q3, q4⟩ := q2
        exact ⟨a, us, rfl, .inl f, q3, Rp.mono m q4⟩
      | bw c xs => exact absurd q (er.nb j c xs)
      | cell a ns => exact ⟨q2.1, ci q2.2 (c1 q)⟩
      | scr ns =>
        obtain ⟨a, rfl, q3⟩ := q2
        exact ⟨a, rfl, q3⟩
      | dct kvs =>
        obtain ⟨a, us, rfl, f, k, q4⟩ := q2
        exact ⟨a, us, rfl, f.mono m, k, Rp.mono m q4⟩
      | fns kvs =>
        obtain ⟨a, rfl, f, q3⟩ := q2
        exact ⟨a, rfl, .inl f, q3⟩
  · rcases ne q with ⟨_, e⟩ | ⟨_, q⟩
    · exact absurd e.symm CT.fro_bw
    · exact er.nb j c xs q
  · exact er.ow j k _ _ _ _ a (own_of q1).2 (own_of q2).2 q3 q4
  · obtain ⟨f1, f2⟩ := er.fr j _ _ a (own_of q1).2 q2
    exact ⟨f1, fun c => f2 (cells c)⟩
  · have b := er.bs
    exact b.frz fun a z => by subst z; exact fr1
  · obtain ⟨q1, q2⟩ := er.pin a o q
    exact ⟨q1, q2.imp .inl id⟩
  · rcases f with f | rfl
    · exact er.dm a f
    · exact ⟨_, h2, c0.ld us⟩
end

/-! ### statements -/
structure VEnds where
  nx : Env → Prop
  rt : SV → Prop
  bk : Env → Prop
  ct : Env → Prop
abbrev TVS := VEnds → Env → Prop
/-- how a def's end stands to its beginning -/
structure Fin (K : PySem.W.Frag) (B : Bas) (F' : FS) (H' : Hp) (s : SV) (u : V) : Prop where
  st : Stp (fun a => ∃ ns, B.c0 a ns) B.F0 F' B.H0 H'
  dm : FOk F' H'
  kb : ∀ a ns, B.c0 a ns → CI F' H' a ns
  sr : SlotR K F' H' u s
  fo : match s with
    | .ow _ _ => ∀ p, u = .ref p → B.H0 p = none
    | .cell a ns => B.c0 a ns ∨ B.H0 a = none
    | _ => True
  pin : ∀ a o, B.G a o → H' a = some o ∧ Stay F' a o
structure Cont (K : PySem.W.Frag) (B : Bas) (E : VEnds) (D : Ends) (c : Nat) : Prop where
  nx : ∀ (F : FS) H σ ρ, F.ck ≤ c → ER K B F H σ ρ → E.nx ρ → D.nx σ H
  rt : ∀ s u (F : FS) H, F.ck ≤ c → E.rt s → NoBrw s → Fin K B F H s u → D.rt u H
  bk : ∀ (F : FS) H σ ρ, F.ck ≤ c → ER K B F H σ ρ → E.bk ρ → D.bk σ H
  ct : ∀ (F : FS) H σ ρ, F.ck ≤ c → ER K B F H σ ρ → E.ct ρ → D.ct σ H
theorem Cont.mono {K : PySem.W.Frag} {B : Bas} {E : VEnds} {D : Ends} {c c' : Nat} (k : Cont K B E D c') (h : c ≤ c') : Cont K B E D c :=
  ⟨fun F H σ ρ l => k.nx F H σ ρ (Nat.le_trans l h), fun s u F H l => k.rt s u F H (Nat.le_trans l h), fun F H σ ρ l => k.bk F H σ ρ (Nat.le_trans l h), fun F H σ ρ l => k.ct F H σ ρ (Nat.le_trans l h)⟩
def VS (X : Cx) (st : Stmt) (t : TVS) (κ : Nat) : Prop := ∃ ts, PS X st ts ∧ ∀ B F H σ ρ E D, ER X.K B F H σ ρ → F.ck + κ ≤ LIM → t E ρ → Cont X.K B E D (F.ck + κ) → ts D σ H
def VSs (X : Cx) (sts : List Stmt) (t : TVS) (κ : Nat) : Prop := ∃ ts, PSs X sts ts ∧ ∀ B F H σ ρ E D, ER X.K B F H σ ρ → F.ck + κ ≤ LIM → t E ρ → Cont X.K B E D (F.ck + κ) → ts D σ H

section
variable {X : Cx}
def vNext : TVS := fun E ρ => E.nx ρ
def vSeq (t u : TVS) : TVS := fun E ρ => t { E with nx := u E } ρ
theorem vss_nil : VSs X [] vNext 0 := ⟨_, pss_nil, fun B F H σ ρ E D er bq t k => k.nx F H σ ρ (by omega) er t⟩
theorem vss_cons {κ1 κ2 : Nat} {st : Stmt} {rest : List Stmt} {t u : TVS} (h : VS X st t κ1) (hr : VSs X rest u κ2) : VSs X (st :: rest) (vSeq t u) (κ1 + κ2) := by
  obtain ⟨ts, ps, g⟩ := h
  obtain ⟨us, pr, gr⟩ := hr
  refine ⟨_, pss_cons ps pr, fun B F H σ ρ E D er bq t k => ?_⟩
  exact g B F H σ ρ _ { D with nx := us D } er (by omega) t ⟨fun F' H' σ' ρ' c er' q => gr B F' H' σ' ρ' E D er' (by omega) q (k.mono (by omega)), (k.mono (by omega)).rt, (k.mono (by omega)).bk, (k.mono (by omega)).ct⟩
theorem vss_one {κ1 : Nat} {st : Stmt} {t : TVS} (h : VS X st t κ1) : VSs X [st] t κ1 := by
  obtain ⟨ts, ps, g⟩ := h
  exact ⟨ts, pss_one ps, g⟩
/-- the list in slot i is frozen from here on -/
def vFrz (i : Nat) (t : TVS) : TVS := fun E ρ => ∃ c ds, ρ[i]? = some (.ow c ds) ∧ t E (ρ.set i (c.fro ds))
theorem vss_frz {κ1 : Nat} {sts : List Stmt} {t : TVS} (i : Nat) (h : VSs X sts t κ1) : VSs X sts (vFrz i t) κ1 := by
  obtain ⟨ts, ps, g⟩ := h
  refine ⟨ts, ps, fun B F H σ ρ E D er bq ⟨c, ds, e, q⟩ k => ?_⟩
  obtain ⟨F', ce, er'⟩ := er.freeze e
  exact g B F' H σ _ E D er' (by omega) q (k.mono (by omega))
theorem vs_pass {pos : Pos} : VS X (.Pass pos) vNext 0 := ⟨_, ps_pass, fun B F H σ ρ E D er bq t k => k.nx F H σ ρ (by omega) er t⟩
def vBreak : TVS := fun E ρ => E.bk ρ
def vCont : TVS := fun E ρ => E.ct ρ
theorem vs_break {pos : Pos} : VS X (.Break pos) vBreak 0 := ⟨_, ps_break, fun B F H σ ρ E D er bq t k => k.bk F H σ ρ (by omega) er t⟩
theorem vs_continue {pos : Pos} : VS X (.Continue pos) vCont 0 := ⟨_, ps_continue, fun B F H σ ρ E D er bq t k => k.ct F H σ ρ (by omega) er t⟩
def vDrop (t : TV) : TVS := fun E ρ => t ρ fun _ => E.nx ρ
theorem vs_expr {κ1 : Nat} {e : Expr} {t : TV} {pos : Pos} (h : VE X e t κ1) (hs : swapsWith e none pos.line X.env = pure false) : VS X (.Expr e pos) (vDrop t) κ1 := by
  obtain ⟨te, pe, g⟩ := h
  exact ⟨_, ps_expr pe hs, fun B F H σ ρ E D er bq t k => g B F H σ ρ _ _ er (by omega) t fun s u F' H' cq q x => k.nx F' H' σ ρ (by omega) (er.step x.toExt) q⟩

theorem hand_no {s : SV} {c : CT} {ds : List PyData} (e : s.hand = some (.ow c ds)) : False := by
  cases s with
  | ow c' es => exact CT.fro_ow (Option.some.inj e)
  | _ => cases e
theorem hand_nb0 {s : SV} {c : CT} {ds : List PyData} (e : s.hand = some (.bw c ds)) : False := by
  cases s with
  | ow c' es => exact CT.fro_bw (Option.some.inj e)
  | _ => cases e
/-- handing a value on -/
theorem Res.hand {K : PySem.W.Frag} {ρ : Env} {F F' : FS} {H H' : Hp} {s t : SV} {u : V} (x : Res K ρ F H F' H' s u) (e : s.hand = some t) :
    ∃ F2, F2.ck = F'.ck ∧ Res K ρ F H F2 H' t u ∧ ∀ c ds, t ≠ .ow c ds := by
  have a : AllR K ρ F' H' H [u] [s] := ⟨x.sr, x.fo, trivial⟩
  have e2 : hands [s] = some [t] := by unfold hands; rw [e]; rfl
  have hN := AllR.owns a
  refine ⟨F'.or (ownsIn [u] [s]), rfl, ⟨x.toExt.frz hN, (hand_all x.toExt a e2 hN (fun a z => z) fun b ns z => by
    rw [← List.mem_singleton.mp z]
    exact fun q => by cases u <;> exact q).1, ?_⟩, fun c ds z => ?_⟩
  · cases s <;> cases e <;> first | trivial | exact x.fo | (rename_i c ds; cases c <;> trivial)
  · subst z
    exact hand_no e
theorem hand_nb {s t : SV} (e : s.hand = some t) : NoBrw t := fun c ds z => by
  subst z
  exact hand_nb0 e
/-- x = e; a list that is new stays one's own, or is handed on -/
def vAsgO (i : Nat) (t : TV) : TVS := fun E ρ => t ρ fun s => match s with
  | .ow c ds => E.nx (ρ.set i (.ow c ds))
  | _ => False
def vAsg (i : Nat) (t : TV) : TVS := fun E ρ => t ρ fun s => ∃ z, s.hand = some z ∧ E.nx (ρ.set i z)
section
variable {i : Nat} {e : Expr} {te : TE} {t : TV}
theorem asg_go {κ : Nat} (g : RE X t κ te)
    (B : Bas) (F : FS) (H : Hp) (σ : Hs) (ρ : Env) (E : VEnds) (D : Ends) (er : ER X.K B F H σ ρ) (bq : F.ck + κ ≤ LIM) (h : vAsg i t E ρ) (k : Cont X.K B E D (F.ck + κ)) : tAsg te (gName i) D σ H := by
  refine g B F H σ ρ _ _ er bq h fun s u F' H' cq ⟨z, e1, q⟩ x => ?_
  obtain ⟨F2, ce, x2, _⟩ := x.hand e1
  exact k.nx F2 H' _ _ (by omega) (er.set x2 (hand_nb e1) i) q
theorem asgO_go {κ : Nat} (g : RE X t κ te)
    (B : Bas) (F : FS) (H : Hp) (σ : Hs) (ρ : Env) (E : VEnds) (D : Ends) (er : ER X.K B F H σ ρ) (bq : F.ck + κ ≤ LIM) (h : vAsgO i t E ρ) (k : Cont X.K B E D (F.ck + κ)) : tAsg te (gName i) D σ H := by
  refine g B F H σ ρ _ _ er bq h fun s u F' H' cq q x => ?_
  cases s with
  | ow c ds => exact k.nx F' H' _ _ (by omega) (er.set x (fun _ _ z => nomatch z) i) q
  | _ => exact q.elim
theorem vs_asg {κ1 : Nat} {st : Stmt} (h : ∀ te, PE X e te → PS X st (tAsg te (gName i))) (he : VE X e t κ1) : VS X st (vAsg i t) κ1 := by
  obtain ⟨te, pe, g⟩ := he
  exact ⟨_, h te pe, asg_go g⟩
theorem vs_asgO {κ1 : Nat} {st : Stmt} (h : ∀ te, PE X e te → PS X st (tAsg te (gName i))) (he : VE X e t κ1) : VS X st (vAsgO i t) κ1 := by
  obtain ⟨te, pe, g⟩ := he
  exact ⟨_, h te pe, asgO_go g⟩
end
/-- return e -/
def vRet (t : TV) : TVS := fun E ρ => t ρ fun s => ∃ z, s.hand = some z ∧ E.rt z
theorem ER.fin {K : PySem.W.Frag} {B : Bas} {F F' : FS} {H H' : Hp} {σ : Hs} {ρ : Env} {s : SV} {u : V} (er : ER K B F H σ ρ) (x : Res K ρ F H F' H' s u) : Fin K B F' H' s u := by
  have e := er.step x.toExt
  have old : ∀ p, H p = none → B.H0 p = none := fun p h => by
    by_cases z : B.H0 p = none
    · exact z
    · exact absurd h (er.bs.ex p z)
  refine ⟨e.bs, e.dm, fun a ns h => (e.kb a ns h).1, x.sr, ?_, e.pin⟩
  have fo := x.fo
  cases s with
  | ow c ds => exact fun p z => old p (fo p z)
  | cell a ns =>
    rcases fo with ⟨i, z⟩ | z
    · rcases er.cf a ⟨i, ns, z⟩ with ⟨ms, q⟩ | q
      · have e2 := (er.cell z).uniq (er.kb a ms q).1
        subst e2
        exact .inl q
      · exact .inr q
    · exact .inr (old a z)
  | _ => trivial
theorem vs_ret {κ1 : Nat} {e : Expr} {t : TV} {pos : Pos} (h : VE X e t κ1) : VS X (.Return (some e) pos) (vRet t) κ1 := by
  obtain ⟨te, pe, g⟩ := h
  refine ⟨_, ps_ret pe, fun B F H σ ρ E D er bq t k => ?_⟩
  refine g B F H σ ρ _ _ er (by omega) t fun s u F' H' cq ⟨z, e1, q⟩ x => ?_
  obtain ⟨F2, ce, x2, _⟩ := x.hand e1
  exact k.rt z u F2 H' (by omega) q (hand_nb e1) (er.fin x2)
theorem vs_retN {pos : Pos} : VS X (.Return none pos) (fun E _ => E.rt (.v .none)) 0 :=
  ⟨_, ps_retN, fun B F H σ ρ E D er bq t k => k.rt _ _ F H (by omega) t (fun _ _ z => nomatch z) (er.fin ⟨er.refl, .non, trivial⟩)⟩
def vIfS (c : TVb) (t u : TVS) : TVS := fun E ρ => c ρ fun b => if b = true then t E ρ else u E ρ
theorem vs_if {κ1 κ2 κ3 : Nat} {c : Expr} {a b : List Stmt} {tc : TVb} {t u : TVS} {pos : Pos} (hc : VT X c tc κ1) (ha : VSs X a t κ2) (hb : VSs X b u κ3) : VS X (.If c a b pos) (vIfS tc t u) (κ1 + κ2 + κ3) := by
  obtain ⟨tce, pc, gc⟩ := hc
  obtain ⟨te, pa, ga⟩ := ha
  obtain ⟨ue, pb, gb⟩ := hb
  refine ⟨_, ps_if pc pa pb, fun B F H σ ρ E D er bq t k => ?_⟩
  refine gc B F H σ ρ _ _ er (by omega) t fun b F' H' cq q x => ?_
  cases b with
  | true => exact ga B F' H' σ ρ E D (er.step x) (by omega) q (k.mono (by omega))
  | false => exact gb B F' H' σ ρ E D (er.step x) (by omega) q (k.mono (by omega))
/-- while, by a word that falls -/
def vWhile (c : TVb) (t : TVS) : TVS := fun E ρ => ∃ W : Nat → Env → Prop, (∃ m, W m ρ) ∧ ∀ m ρ, W m ρ → c ρ fun b => if b = true then
    t { E with nx := fun ρ' => ∃ m', m' < m ∧ W m' ρ', ct := fun ρ' => ∃ m', m' < m ∧ W m' ρ', bk := E.nx } ρ else E.nx ρ
theorem vs_while {κ1 κ2 : Nat} {c : Expr} {body : List Stmt} {tc : TVb} {t : TVS} {pos : Pos} (hp : PassesOwn (model X.prog X.w) X.A X.env X.xe) (hc : VT X c tc κ1) (hb : VSs X body t κ2) (h0 : κ1 + κ2 = 0 := by omega) : VS X (.While c body [] pos) (vWhile tc t) 0 := by
  obtain ⟨rfl, rfl⟩ : κ1 = 0 ∧ κ2 = 0 := ⟨by omega, by omega⟩
  obtain ⟨tce, pc, gc⟩ := hc
  obtain ⟨te, pb, gb⟩ := hb
  refine ⟨_, ps_while hp pc pb, fun B F H σ ρ E D er bq ⟨W, ⟨m0, w0⟩, hw⟩ k => ?_⟩
  refine ⟨fun m σ' H' => ∃ (F' : FS) (ρ' : Env), F'.ck ≤ F.ck ∧ ER X.K B F' H' σ' ρ' ∧ W m ρ', ⟨m0, F, ρ, Nat.le_refl _, er, w0⟩, ?_⟩
  rintro m σ' H' ⟨F', ρ', cl, er', w'⟩
  refine gc B F' H' σ' ρ' _ _ er' (by omega) (hw m ρ' w') fun b F2 H2 cq q x => ?_
  cases b with
  | true =>
    refine ⟨fun σ3 H3 => ∃ (F3 : FS) (ρ3 : Env), F3.ck ≤ F.ck ∧ ER X.K B F3 H3 σ3 ρ3 ∧ ∃ m', m' < m ∧ W m' ρ3, ?_, ?_⟩
    · rintro σ3 H3 ⟨F3, ρ3, c3, er3, m', hm, w3⟩
      exact ⟨m', hm, F3, ρ3, c3, er3, w3⟩
    · exact gb B F2 H2 σ' ρ' _ _ (er'.step x) (by omega) q ⟨fun F3 H3 σ3 ρ3 c3 er3 q3 => ⟨F3, ρ3, by omega, er3, q3⟩, (k.mono (by omega)).rt, (k.mono (by omega)).nx, fun F3 H3 σ3 ρ3 c3 er3 q3 => ⟨F3, ρ3, by omega, er3, q3⟩⟩
  | false => exact k.nx F2 H2 σ' ρ' (by omega) (er'.step x) q
end
end VL
namespace VL
open PySem PySem.Spec PyProof.Rows L2 VG

/-! ### walks -/
/-- v is the data d; w: or a tuple of whose object nothing is known -/
def R1q (w : Bool) (K : PySem.W.Frag) (F : FS) (H : Hp) (v : V) (d : PyData) : Prop :=
  R1 K F H v d ∨ (w = true ∧ ∃ (a : Addr) (xs : List V) (ds : List PyData), v = .ref a ∧ d = .tuple ds ∧ SqT K H a xs ∧ RA K F H xs ds)
theorem R1q.s {K : PySem.W.Frag} {F : FS} {H : Hp} {v : V} {d : PyData} (h : R1q false K F H v d) : R1 K F H v d := h.elim id fun z => nomatch z.1
theorem R1q.t {w : Bool} {K : PySem.W.Frag} {F : FS} {H : Hp} {v : V} {ds : List PyData} (h : R1q w K F H v (.tuple ds)) : ∃ a xs, v = .ref a ∧ SqT K H a xs ∧ RA K F H xs ds := by
  rcases h with h | ⟨_, a, xs, es, e, e2, q, r⟩
  · cases h with
    | tup q r => exact ⟨_, _, rfl, q.t, r⟩
  · cases e2
    exact ⟨a, xs, e, q, r⟩
/-- J walks the data ds; (F1, H1): where it began -/
structure Wk (w : Bool) (J : It) (K : PySem.W.Frag) (ds : List PyData) (F1 : FS) (H1 : Hp) : Prop where
  go : ∀ i F H, FM F1 F H1 H → FOk F H → i < ds.length → J.go i H
  yld : ∀ i F H x H' d, FM F1 F H1 H → FOk F H → ds[i]? = some d → J.yld i H x H' → ∃ F' : FS, F'.ck = F.ck ∧ Stp (fun _ => False) F F' H H' ∧ FOk F' H' ∧ R1q w K F' H' x d
  stop : ∀ F H, FM F1 F H1 H → FOk F H → J.stop ds.length H
abbrev TVl := Env → (List PyData → Prop) → Prop
def VI (w : Bool) (X : Cx) (tg iter : Expr) (t : TVl) (κ : Nat) : Prop := ∃ wi, PI X tg iter wi ∧
  ∀ B F H σ ρ (Q : List PyData → Prop) (R : It → Hp → Prop), ER X.K B F H σ ρ → F.ck + κ ≤ LIM → t ρ Q → (∀ ds J (F' : FS) H', F'.ck ≤ F.ck + κ → Q ds → Ext ρ F H F' H' → Wk w J X.K ds F' H' → R J H') → wi σ H R
def iSeq (K : PySem.W.Frag) (te : TE) : TI := fun σ H R => te σ H fun x H1 =>
  (∃ a, x = .ref a ∧ (((∃ xs, SqL K H1 a xs) ∧ R (Itl K a) H1) ∨ ((∃ xs, SqT K H1 a xs) ∧ R (Itt K a) H1))) ∨ ∃ z, x = .str z ∧ R (Its z) H1
section
variable {X : Cx}
theorem pi_seq {tg l : Expr} {te : TE} (hl : PE X l te) : PI X tg l (iSeq X.K te) := by
  refine ⟨fun pins s σ H R I h => thn (hl.run pins s σ H _ I h) fun v s1 q => ?_⟩
  obtain ⟨x, H1, I1, r, q⟩ := q
  have room : ∀ b, b ∈ [s1.heap.objs.size] → FpOk X pins H1 b := fun b hb => by
    rw [List.mem_singleton.mp hb]
    exact I1.fpOk (Nat.le_refl _) I1.fresh
  have more : ∀ o : Obj, Inv X pins σ H1 { s1 with heap := s1.heap.push o, toks := s1.toks } := fun o => I1.kept fun b o e => Heap.get?_push_of_some _ e
  rcases q with ⟨a, rfl, ⟨⟨xs, hq⟩, q⟩ | ⟨⟨xs, hq⟩, q⟩⟩ | ⟨z, rfl, q⟩
  · cases r
    obtain ⟨its, rv, p, _⟩ := I1.list hq
    exact wpAny_pyIter_list p.isList ⟨_, [s1.heap.objs.size], _, _, H1, rfl, more _, turn_list a _, ⟨_, Heap.get?_push_size _ rfl, rfl, rfl⟩, room, q⟩
  · cases r
    obtain ⟨its, rv, p, _⟩ := I1.tuple hq
    exact wpAny_pyIter_tuple (show s1.heap.IsTuple a its.toArray from p) ⟨_, [s1.heap.objs.size], _, _, H1, rfl, more _, turn_tuple a _, ⟨_, Heap.get?_push_size _ rfl, rfl, rfl⟩, room, q⟩
  · obtain ⟨t, rfl⟩ := r
    rcases ha : z.cps.all (· < 128)
    · exact wpAny_pyIter_wide ha (pi_one (tk := s1.toks) I1 _ (turn_str _ z t "str_iterator" (.inr rfl)) ⟨_, Heap.get?_push_size _ rfl, rfl, rfl⟩ q)
    · exact wpAny_pyIter_ascii ha (pi_one (tk := s1.toks) I1 _ (turn_str _ z t "str_ascii_iterator" (.inl rfl)) ⟨_, Heap.get?_push_size _ rfl, rfl, rfl⟩ q)
/-- what can be walked: the items (a list of the frame's own is not: it may change) -/
def SV.items : SV → Option (List PyData)
  | .v (.list ds) => some ds
  | .ow .lst ds => some ds
  | .v (.tuple ds) => some ds
  | .v (.str z) => some (z.cps.toList.map fun c => .str ⟨#[c]⟩)
  | _ => none
variable {K : PySem.W.Frag} {F1 : FS} {H1 : Hp}
theorem wk_list {a : Addr} {xs : List V} {ds : List PyData} (f : F1 a) (h : H1 a = some (.lst xs)) (r : RA K F1 H1 xs ds) : Wk false (Itl K a) K ds F1 H1 where
  go := fun i F H m d hi => by
    have hl := r.len
    exact ⟨xs, xs[i]'(by omega), SqL.of (m.fk _ _ f h), by simp [hl, hi]⟩
  yld := fun i F H x H' d m fo hd y => by
    obtain ⟨rfl, y⟩ := y
    have hx := y xs (SqL.of (m.fk _ _ f h))
    obtain ⟨v, q1, q2⟩ := r.get hd
    rw [hx] at q1
    cases q1
    exact ⟨F, rfl, Stp.refl, fo, .inl (Rp.mono m q2)⟩
  stop := fun F H m _ => ⟨xs, SqL.of (m.fk _ _ f h), by rw [r.len]; exact Nat.le_refl _⟩
theorem wk_tup {a : Addr} {xs : List V} {ds : List PyData} (h : SqT K H1 a xs) (r : RA K F1 H1 xs ds) : Wk false (Itt K a) K ds F1 H1 where
  go := fun i F H m d hi => by
    have hl := r.len
    exact ⟨xs, xs[i]'(by omega), m.sqt h, by simp [hl, hi]⟩
  yld := fun i F H x H' d m fo hd y => by
    obtain ⟨rfl, y⟩ := y
    have hx := y xs (m.sqt h)
    obtain ⟨v, q1, q2⟩ := r.get hd
    rw [hx] at q1
    cases q1
    exact ⟨F, rfl, Stp.refl, fo, .inl (Rp.mono m q2)⟩
  stop := fun F H m _ => ⟨xs, m.sqt h, by rw [r.len]; exact Nat.le_refl _⟩
theorem wk_str {z : Str} : Wk false (Its z) K (z.cps.toList.map fun c => .str ⟨#[c]⟩) F1 H1 where
  go := fun i F H m d hi => by
    show i < z.cps.size
    simpa using hi
  yld := fun i F H x H' d m fo hd y => by
    obtain ⟨rfl, c, e, rfl⟩ := y
    refine ⟨F, rfl, Stp.refl, fo, ?_⟩
    have e2 : (z.cps.toList.map fun c => PyData.str ⟨#[c]⟩)[i]? = some (PyData.str ⟨#[c]⟩) := by
      rw [List.getElem?_map, Array.getElem?_toList, e]; rfl
    rw [e2] at hd
    cases hd
    exact .inl (.str _)
  stop := fun F H m _ => by simp [Its]
theorem wk_range {lo : Int} {n : Nat} : Wk false (Itr lo n) K ((List.range n).map fun (i : Nat) => PyData.int (lo + (i : Int))) F1 H1 where
  go := fun i F H m d hi => by
    show i < n
    simpa using hi
  yld := fun i F H x H' d m fo hd y => by
    obtain ⟨rfl, rfl⟩ := y
    refine ⟨F, rfl, Stp.refl, fo, ?_⟩
    have hi : i < n := by
      have := (List.getElem?_eq_some_iff.mp hd).1
      simpa using this
    have e2 : ((List.range n).map fun (i : Nat) => PyData.int (lo + (i : Int)))[i]? = some (PyData.int (lo + (i : Int))) := by
      rw [List.getElem?_map, List.getElem?_range hi]; rfl
    rw [e2] at hd
    cases hd
    exact .inl (.int _)
  stop := fun F H m _ => by
    show n ≤ _
    simp
end


section
variable {X : Cx}
theorem vi_seq {κ1 : Nat} {tg l : Expr} {t : TV} (h : VE X l t κ1) : VI false X tg l (fun ρ Q => t ρ fun s => ∃ ds, s.items = some ds ∧ Q ds) κ1 := by
  obtain ⟨te, pe, g⟩ := h
  refine ⟨_, pi_seq pe, fun B F H σ ρ Q R er bq t k => ?_⟩
  refine g B F H σ ρ _ _ er (by omega) t fun s u F' H' cq ⟨ds, e, q⟩ x => ?_
  cases s with
  | v d =>
    have r : R1 X.K F' H' u d := x.sr
    cases d with
    | list es =>
      cases e
      cases r with
      | lst f h r => exact .inl ⟨_, rfl, .inl ⟨⟨_, SqL.of h⟩, k _ _ F' H' (by omega) q x.toExt (wk_list f h r)⟩⟩
    | tuple es =>
      cases e
      cases r with
      | tup h r => exact .inl ⟨_, rfl, .inr ⟨⟨_, h.t⟩, k _ _ F' H' (by omega) q x.toExt (wk_tup h.t r)⟩⟩
    | str z =>
      cases e
      cases r with
      | str z => exact .inr ⟨_, rfl, k _ _ F' H' (by omega) q x.toExt wk_str⟩
    | _ => cases e
  | ow c es =>
    cases c with
    | lst =>
      cases e
      obtain ⟨F2, ce, x2, _⟩ := x.hand (t := .v (.list ds)) rfl
      have r : R1 X.K F2 H' u (.list ds) := x2.sr
      cases r with
      | lst f h r => exact .inl ⟨_, rfl, .inl ⟨⟨_, SqL.of h⟩, k _ _ F2 H' (by omega) q x2.toExt (wk_list f h r)⟩⟩
    | _ => cases e
  | _ => cases e
/-- range(n) | range(a, b) -/
def isI (s : SV) (P : Int → Prop) : Prop := ∃ i, s = .v (.int i) ∧ P i
theorem int_of {K : PySem.W.Frag} {F : FS} {H : Hp} {u : V} {i : Int} (h : SlotR K F H u (.v (.int i))) : u = .int i := by
  cases (show R1 K F H u (.int i) from h) with
  | int i => rfl
def vRng1 (t : TVs) : TVl := fun ρ Q => t ρ fun ss => ∃ n : Int, ss = [.v (.int n)] ∧ n < 2 ^ 62 ∧ -(2 ^ 62) ≤ n ∧ Q ((List.range n.toNat).map fun (i : Nat) => PyData.int (0 + (i : Int)))
def vRng2 (t : TVs) : TVl := fun ρ Q => t ρ fun ss => ∃ a b : Int, ss = [.v (.int a), .v (.int b)] ∧ a < 2 ^ 62 ∧ -(2 ^ 62) ≤ a ∧ b < 2 ^ 62 ∧ -(2 ^ 62) ≤ b ∧ Q ((List.range (b - a).toNat).map fun (i : Nat) => PyData.int (a + (i : Int)))
theorem vi_range1 {κ1 : Nat} {tg l : Expr} {es : List Expr} {t : TVs} (hr : ∀ ta, PA X es ta → PI X tg l (iRng1 ta)) (h : VA X es t κ1) : VI false X tg l (vRng1 t) κ1 := by
  obtain ⟨ta, pa, g⟩ := h
  refine ⟨_, hr ta pa, fun B F H σ ρ Q R er bq t k => ?_⟩
  refine g B F H σ ρ _ _ er (by omega) t fun ss us F' H' cq ⟨n, e, h1, h2, q⟩ x al => ?_
  subst e
  match us, al with
  | [u], ⟨s1, _, _⟩ =>
    rw [int_of s1]
    exact ⟨n, rfl, h2, h1, k _ _ F' H' (by omega) q x wk_range⟩
theorem vi_range2 {κ1 : Nat} {tg l : Expr} {es : List Expr} {t : TVs} (hr : ∀ ta, PA X es ta → PI X tg l (iRng2 ta)) (h : VA X es t κ1) : VI false X tg l (vRng2 t) κ1 := by
  obtain ⟨ta, pa, g⟩ := h
  refine ⟨_, hr ta pa, fun B F H σ ρ Q R er bq t k => ?_⟩
  refine g B F H σ ρ _ _ er (by omega) t fun ss us F' H' cq ⟨a, b, e, h1, h2, h3, h4, q⟩ x al => ?_
  subst e
  match us, al with
  | [u, w], ⟨s1, _, s2, _, _⟩ =>
    rw [int_of s1, int_of s2]
    exact ⟨a, b, rfl, ⟨h2, h1, h4, h3⟩, k _ _ F' H' (by omega) q x wk_range⟩

/-! ### targets -/
abbrev TGt := PyData → Env → (Env → Prop) → Prop
abbrev TGts := List PyData → Env → (Env → Prop) → Prop
/-- no other feeds -/
def CSub (ρ' ρ : Env) : Prop := ∀ (i : Nat) (a : Addr) (ns : Cel), ρ'[i]? = some (SV.cell a ns) → ∃ j : Nat, ρ[j]? = some (SV.cell a ns)
theorem csub_set {ρ : Env} {i : Nat} {d : PyData} : CSub (ρ.set i (.v d)) ρ := fun j a ns e => by
  by_cases z : j = i
  · subst z
    exact nomatch getElem?_set_eq e
  · rw [List.getElem?_set_ne (Ne.symm z)] at e
    exact ⟨j, e⟩
/-- a target: what it stores, and where (is: the slots) -/
def GS (K : PySem.W.Frag) (is : List Nat) (σ0 : Hs) (ρ0 : Env) (B : Bas) (F : FS) (H : Hp) (Q : Env → Prop) (R : Hs → Hp → Prop) : Prop :=
  ∀ σ' ρ', ER K B F H σ' ρ' → (∀ vs, (∀ i ∈ is, i ∈ vs) → wipe σ' vs = wipe σ0 vs) ∧ CSub ρ' ρ0 → Q ρ' → R σ' H
def VTg (w : Bool) (X : Cx) (is : List Nat) (tg : Expr) (t : TGt) : Prop := ∃ g, PG X tg g ∧ ∀ B F H σ ρ u d (Q : Env → Prop) (R : Hs → Hp → Prop),
  ER X.K B F H σ ρ → R1q w X.K F H u d → t d ρ Q → GS X.K is σ ρ B F H Q R → g u σ H R
def VTgs (X : Cx) (is : List Nat) (tgs : List Expr) (t : TGts) : Prop := ∃ g, PGs X tgs g ∧ ∀ B F H σ ρ us ds (Q : Env → Prop) (R : Hs → Hp → Prop),
  ER X.K B F H σ ρ → RA X.K F H us ds → t ds ρ Q → GS X.K is σ ρ B F H Q R → g us σ H R
theorem wipe_set {σ : Hs} {i : Nat} {x : Option V} : ∀ {vs : List Nat}, i ∈ vs → wipe (σ.set i x) vs = wipe σ vs := by
  intro vs h
  apply List.ext_getElem?
  intro j
  by_cases hj : j ∈ vs
  · have w1 : ∀ τ : Hs, ∀ v, (wipe τ vs)[j]? = some (some v) → False := fun τ v e => (wipe_some e).2 hj
    have l1 : (wipe (σ.set i x) vs).length = σ.length := by rw [wipe_length]; simp
    have l2 : (wipe σ vs).length = σ.length := wipe_length ..
    by_cases hl : j < σ.length
    · rcases e1 : (wipe (σ.set i x) vs)[j]? with _ | o1
      · rw [List.getElem?_eq_none_iff] at e1; omega
      · rcases e2 : (wipe σ vs)[j]? with _ | o2
        · rw [List.getElem?_eq_none_iff] at e2; omega
        · cases o1 with
          | some v => exact (w1 _ v e1).elim
          | none => cases o2 with
            | some v => exact (w1 _ v e2).elim
            | none => rfl
    · rw [List.getElem?_eq_none_iff.mpr (by omega), List.getElem?_eq_none_iff.mpr (by omega)]
  · rw [wipe_out hj, wipe_out hj, List.getElem?_set_ne (fun e => hj (by rw [← e]; exact h))]
def vgName (i : Nat) : TGt := fun d ρ Q => Q (ρ.set i (.v d))
theorem vtg_name {i : Nat} {e : Expr} (h : PG X e (gName i)) : VTg false X [i] e (vgName i) := by
  refine ⟨_, h, fun B F H σ ρ u d Q R er r t k => ?_⟩
  exact k _ _ (er.set (s := .v d) ⟨er.refl, r.s, trivial⟩ (fun _ _ z => nomatch z) i) ⟨fun vs hv => wipe_set (hv i (by simp)), csub_set⟩ t
def vgNil : TGts := fun ds ρ Q => ds = [] ∧ Q ρ
def vgCons (t : TGt) (r : TGts) : TGts := fun ds ρ Q => ∃ d ds', ds = d :: ds' ∧ t d ρ fun ρ' => r ds' ρ' Q
theorem vtgs_nil : VTgs X [] [] vgNil := by
  refine ⟨_, pgs_nil, fun B F H σ ρ us ds Q R er r ⟨e, q⟩ k => ?_⟩
  subst e
  cases r
  exact ⟨rfl, k σ ρ er ⟨fun _ _ => rfl, fun i a ns c => ⟨i, c⟩⟩ q⟩
theorem vtgs_cons {is js : List Nat} {e : Expr} {es : List Expr} {t : TGt} {r : TGts} (h : VTg false X is e t) (hr : VTgs X js es r)
    (pc : ∀ u us, PG X e u → PGs X es us → PGs X (e :: es) (gCons u us)) : VTgs X (is ++ js) (e :: es) (vgCons t r) := by
  obtain ⟨g, pg, gg⟩ := h
  obtain ⟨g2, pg2, gg2⟩ := hr
  refine ⟨_, pc _ _ pg pg2, fun B F H σ ρ us ds Q R er r ⟨d, ds', e, q⟩ k => ?_⟩
  subst e
  cases r with
  | cons r1 r2 =>
    refine ⟨_, _, rfl, gg B F H σ ρ _ d _ _ er (.inl r1) q fun σ1 ρ1 er1 w1 q1 => ?_⟩
    exact gg2 B F H σ1 ρ1 _ ds' Q R er1 r2 q1 fun σ2 ρ2 er2 w2 q2 => k σ2 ρ2 er2 ⟨fun vs hv => (w2.1 vs fun i hi => hv i (by simp [hi])).trans (w1.1 vs fun i hi => hv i (by simp [hi])), fun i a ns c => by
      obtain ⟨j, c⟩ := w2.2 i a ns c
      exact w1.2 j a ns c⟩ q2
def vgTup (n : Nat) (t : TGts) : TGt := fun d ρ Q => ∃ ds, d = .tuple ds ∧ ds.length = n ∧ t ds ρ Q
theorem vtg_tup {w : Bool} {is : List Nat} {es : List Expr} {k : Nat} {t : TGts} {n : Nat} {pos : Pos} (hc : X.calm = true) (h : VTgs X is es t)
    (hn : (assignEach es X.env).length = n) (hst : (assignEach es X.env).findIdx? (·.1) = none) : VTg w X is (.Tuple es k pos) (vgTup n t) := by
  obtain ⟨g, pg, gg⟩ := h
  refine ⟨_, pg_tup hc pg hn hst, fun B F H σ ρ u d Q R er r ⟨ds, e, hl, q⟩ k => ?_⟩
  subst e
  obtain ⟨a, xs, rfl, h, r⟩ := r.t
  exact ⟨_, _, rfl, h, (RA.len r).trans hl, gg B F H σ ρ _ ds Q R er r q k⟩
/-- a, b = e -/
def vAsgT (t : TV) (g : TGt) : TVS := fun E ρ => t ρ fun s => ∃ d, s = .v d ∧ g d ρ E.nx
theorem vs_asgT {κ1 : Nat} {is : List Nat} {tg e : Expr} {st : Stmt} {t : TV} {g : TGt} (h : ∀ te tg', PE X e te → PG X tg tg' → PS X st (tAsg te tg')) (he : VE X e t κ1) (hg : VTg false X is tg g) : VS X st (vAsgT t g) κ1 := by
  obtain ⟨te, pe, ge⟩ := he
  obtain ⟨gg, pg, sg⟩ := hg
  refine ⟨_, h _ _ pe pg, fun B F H σ ρ E D er bq t k => ?_⟩
  refine ge B F H σ ρ _ _ er (by omega) t fun s u F' H' cq ⟨d, e, q⟩ x => ?_
  subst e
  exact sg B F' H' σ ρ u d _ _ (er.step x.toExt) (.inl x.sr) q fun σ' ρ' er' _ q' => k.nx F' H' σ' ρ' (by omega) er' q'
/-- a, b = e1, e2 without a tuple -/
def vPar (i j : Nat) (t : TVs) : TVS := fun E ρ => t ρ fun ss => ∃ a b, datasIn ss = some [a, b] ∧ E.nx ((ρ.set i (.v a)).set j (.v b))
theorem vs_par {κ1 : Nat} {i j : Nat} {st : Stmt} {es : List Expr} {t : TVs} (h : ∀ ta, PA X es ta → PS X st (tPar i j ta)) (ha : VA X es t κ1) : VS X st (vPar i j t) κ1 := by
  obtain ⟨ta, pa, g⟩ := ha
  refine ⟨_, h ta pa, fun B F H σ ρ E D er bq t k => ?_⟩
  refine g B F H σ ρ _ _ er (by omega) t fun ss us F' H' cq ⟨a, b, e, q⟩ x al => ?_
  obtain ⟨F2, ce, x2, ra⟩ := data_all x al e
  match us, ra with
  | [u, w], .cons r1 (.cons r2 .nil) =>
    have e2 := er.step x2
    have e3 := e2.set (s := .v a) ⟨e2.refl, r1, trivial⟩ (fun _ _ z => nomatch z) i
    have e4 := e3.set (s := .v b) ⟨e3.refl, r2, trivial⟩ (fun _ _ z => nomatch z) j
    exact ⟨u, w, rfl, k.nx F2 H' _ _ (by omega) e4 q⟩

/-! ### for -/
def vLoop (g : TGt) (t : TVS) (E : VEnds) : List PyData → Env → Prop
  | [], ρ => E.nx ρ
  | d :: ds, ρ => g d ρ fun ρ' => t { E with nx := vLoop g t E ds, ct := vLoop g t E ds, bk := E.nx } ρ'
def vFor (it : TVl) (g : TGt) (t : TVS) : TVS := fun E ρ => it ρ fun ds => vLoop g t E ds ρ
theorem ER.rebase {K : PySem.W.Frag} {B : Bas} {F : FS} {H : Hp} {σ : Hs} {ρ : Env} {G : Addr → HO → Prop} (er : ER K B F H σ ρ) (h : ∀ a o, G a o → H a = some o ∧ Stay F a o) : ER K { B with G := G } F H σ ρ :=
  ⟨er.len, er.sl, er.nb, er.ow, er.fr, er.cf, er.bs, er.kb, h, er.dm⟩
theorem fm_of {F1 F : FS} {H1 H : Hp} (d : FOk F1 H1) (h : ∀ a o, H1 a = some o → Stay F1 a o → H a = some o ∧ Stay F a o) : FM F1 F H1 H := by
  refine ⟨fun a f => ?_, fun a o f e => (h a o e (.inl f)).1, fun a xs e => (h a _ e (.inr (.inl ⟨_, rfl⟩))).1, fun a o u e => (h a _ e (.inr (.inr ⟨_, _, rfl⟩))).1⟩
  obtain ⟨xs, e, l⟩ := d a f
  rcases (h a _ e (.inl f)).2 with z | ⟨_, z⟩ | ⟨_, _, z⟩
  · exact z
  · subst z; cases l
  · subst z; cases l
theorem for_go {w : Bool} {κ1 κ2 : Nat} {is : List Nat} {tg iter : Expr} {st : Stmt} {body : List Stmt} {it : TVl} {g : TGt} {t : TVS} (h : ∀ wi tg' tb, PI X tg iter wi → PG X tg tg' → PSs X body tb → PS X st (tFor wi tg' tb)) (hi : VI w X tg iter it κ1) (hg : VTg w X is tg g)
    (hb : VSs X body t κ2) (N : Nat) (ok : List PyData → Prop) (hN : ∀ ds, ok ds → ds.length * κ2 ≤ N) : VS X st (fun E ρ => it ρ fun ds => ok ds ∧ vLoop g t E ds ρ) (κ1 + N) := by
  obtain ⟨wi, pi, gi⟩ := hi
  obtain ⟨gt, pg, gg⟩ := hg
  obtain ⟨tb, pb, gb⟩ := hb
  refine ⟨_, h _ _ _ pi pg pb, fun B F H σ ρ E D er bq q k => ?_⟩
  refine gi B F H σ ρ _ _ er (by omega) q fun ds J F1 H1 cq q1 x wk => ?_
  obtain ⟨okd, q1⟩ := q1
  have hN := hN ds okd
  have er1 := er.step x
  have er2 : ER X.K { B with G := fun a o => H1 a = some o ∧ Stay F1 a o } F1 H1 σ ρ := er1.rebase fun a o z => z
  have back : ∀ {F' : FS} {H' : Hp} {σ' : Hs} {ρ' : Env}, ER X.K { B with G := fun a o => H1 a = some o ∧ Stay F1 a o } F' H' σ' ρ' → ER X.K B F' H' σ' ρ' := fun {F' H' σ' ρ'} e =>
    e.rebase fun a o z => e.pin a o (er1.pin a o z)
  have fm : ∀ {F' : FS} {H' : Hp} {σ' : Hs} {ρ' : Env}, ER X.K { B with G := fun a o => H1 a = some o ∧ Stay F1 a o } F' H' σ' ρ' → FM F1 F' H1 H' := fun {F' H' σ' ρ'} e =>
    fm_of x.dm fun a o h1 h2 => e.pin a o ⟨h1, h2⟩
  refine ⟨fun i m σ' H' => m = ds.length - i ∧ i ≤ ds.length ∧ ∃ (F' : FS) (ρ' : Env), F'.ck ≤ F1.ck + i * κ2 ∧ ER X.K { B with G := fun a o => H1 a = some o ∧ Stay F1 a o } F' H' σ' ρ' ∧ vLoop g t E (ds.drop i) ρ', ⟨_, rfl, Nat.zero_le _, F1, ρ, by omega, er2, q1⟩, ?_⟩
  rintro i m σ' H' ⟨rfl, hi, F', ρ', ce, er', q'⟩
  have hm1 : i * κ2 ≤ ds.length * κ2 := Nat.mul_le_mul_right _ hi
  by_cases hlt : i < ds.length
  · refine .inr ⟨wk.go i F' H' (fm er') er'.dm hlt, fun σ3 H3 => ∃ (F3 : FS) (ρ3 : Env), F3.ck ≤ F1.ck + (i + 1) * κ2 ∧ ER X.K { B with G := fun a o => H1 a = some o ∧ Stay F1 a o } F3 H3 σ3 ρ3 ∧ vLoop g t E (ds.drop (i + 1)) ρ3, fun σ3 H3 ⟨F3, ρ3, c3, er3, q3⟩ => ⟨ds.length - (i + 1), by omega, rfl, hlt, F3, ρ3, c3, er3, q3⟩, fun y H2 hy => ?_⟩
    have hd : ds[i]? = some (ds[i]'hlt) := List.getElem?_eq_getElem hlt
    obtain ⟨F2, c2, st, dm, r⟩ := wk.yld i F' H' y H2 _ (fm er') er'.dm hd hy
    have er2' := er'.step ((er'.refl).pure st dm)
    rw [List.drop_eq_getElem_cons hlt] at q'
    refine gg _ F2 H2 σ' ρ' y _ _ _ er2' r q' fun σ4 ρ4 er4 _ q4 => ?_
    have hm2 : (i + 1) * κ2 ≤ ds.length * κ2 := Nat.mul_le_mul_right _ hlt
    have hm3 : (i + 1) * κ2 = i * κ2 + κ2 := Nat.succ_mul i κ2
    exact gb _ F2 H2 σ4 ρ4 _ _ er4 (by omega) q4 ⟨fun F3 H3 σ3 ρ3 c3 er3 q3 => ⟨F3, ρ3, by omega, er3, q3⟩, fun s u F3 H3 c3 h1 h2 h3 => k.rt s u F3 H3 (by omega) h1 h2 ⟨h3.st, h3.dm, h3.kb, h3.sr, h3.fo, fun a o z => h3.pin a o (er1.pin a o z)⟩,
      fun F3 H3 σ3 ρ3 c3 er3 q3 => k.nx F3 H3 σ3 ρ3 (by omega) (back er3) q3, fun F3 H3 σ3 ρ3 c3 er3 q3 => ⟨F3, ρ3, by omega, er3, q3⟩⟩
  · have e : i = ds.length := by omega
    subst e
    rw [List.drop_length] at q'
    exact .inl ⟨wk.stop F' H' (fm er') er'.dm, k.nx F' H' σ' ρ' (by omega) (back er') q'⟩
theorem vs_for {w : Bool} {κ1 κ2 : Nat} {is : List Nat} {tg iter : Expr} {st : Stmt} {body : List Stmt} {it : TVl} {g : TGt} {t : TVS} (h : ∀ wi tg' tb, PI X tg iter wi → PG X tg tg' → PSs X body tb → PS X st (tFor wi tg' tb)) (hi : VI w X tg iter it κ1) (hg : VTg w X is tg g)
    (hb : VSs X body t κ2) (h0 : κ2 = 0 := by omega) : VS X st (vFor it g t) κ1 := by
  subst h0
  have h1 := for_go h hi hg hb 0 (fun _ => True) fun ds _ => by omega
  have key : (fun (E : VEnds) (ρ : Env) => it ρ fun ds => True ∧ vLoop g t E ds ρ) = vFor it g t := by
    funext E ρ
    unfold vFor
    congr 1
    funext ds
    exact propext ⟨fun h => h.2, fun h => ⟨trivial, h⟩⟩
  rw [key] at h1
  exact h1
/-- for, of at most L turns, in whose turns draws are made -/
def vForL (L : Nat) (it : TVl) (g : TGt) (t : TVS) : TVS := fun E ρ => it ρ fun ds => ds.length ≤ L ∧ vLoop g t E ds ρ
theorem vs_forL {w : Bool} (L : Nat) {κ1 κ2 : Nat} {is : List Nat} {tg iter : Expr} {st : Stmt} {body : List Stmt} {it : TVl} {g : TGt} {t : TVS} (h : ∀ wi tg' tb, PI X tg iter wi → PG X tg tg' → PSs X body tb → PS X st (tFor wi tg' tb)) (hi : VI w X tg iter it κ1) (hg : VTg w X is tg g)
    (hb : VSs X body t κ2) : VS X st (vForL L it g t) (κ1 + L * κ2) := for_go h hi hg hb (L * κ2) (fun ds => ds.length ≤ L) fun ds h => Nat.mul_le_mul_right _ h
end
end VL
namespace VL
open PySem PySem.Spec PyProof.Rows L2 VG

/-! ### readings that hang on the meaning alone -/
def canE (K : PySem.W.Frag) (t : TV) (κ : Nat) : TE := fun σ H R => ∃ B F ρ, ∃ Q : SV → Prop, ER K B F H σ ρ ∧ F.ck + κ ≤ LIM ∧ t ρ Q ∧ ∀ s u (F' : FS) H', F'.ck ≤ F.ck + κ → Q s → Res K ρ F H F' H' s u → R u H'
def canT (K : PySem.W.Frag) (t : TVb) (κ : Nat) : TT := fun σ H R => ∃ B F ρ, ∃ Q : Bool → Prop, ER K B F H σ ρ ∧ F.ck + κ ≤ LIM ∧ t ρ Q ∧ ∀ b (F' : FS) H', F'.ck ≤ F.ck + κ → Q b → Ext ρ F H F' H' → R b H'
def canG (w : Bool) (K : PySem.W.Frag) (is : List Nat) (t : TGt) : TG := fun u σ H R => ∃ B F ρ d, ∃ Q : Env → Prop, ER K B F H σ ρ ∧ R1q w K F H u d ∧ t d ρ Q ∧ GS K is σ ρ B F H Q R
section
variable {X : Cx}
theorem VE.can {κ1 : Nat} {e : Expr} {t : TV} (h : VE X e t κ1) : PE X e (canE X.K t κ1) := by
  obtain ⟨te, pe, g⟩ := h
  exact ⟨fun pins s σ H R I ⟨B, F, ρ, Q, er, bq, ht, k⟩ => pe.run pins s σ H R I (g B F H σ ρ Q R er bq ht k)⟩
def VTs (X : Cx) (es : List Expr) (t : TVb) (κ : Nat) : Prop := ∃ te, PTs X es te ∧
  ∀ B F H σ ρ (Q : Bool → Prop) (R : Bool → Hp → Prop), ER X.K B F H σ ρ → F.ck + κ ≤ LIM → t ρ Q → (∀ b (F' : FS) H', F'.ck ≤ F.ck + κ → Q b → Ext ρ F H F' H' → R b H') → te σ H R
theorem vts_nil : VTs X [] (fun _ Q => Q true) 0 := ⟨_, pts_nil, fun B F H σ ρ Q R er bq t k => k true F H (by omega) t er.refl⟩
theorem vts_one {κ1 : Nat} {c : Expr} {t : TVb} (h : VT X c t κ1) : VTs X [c] t κ1 := by
  obtain ⟨te, pe, g⟩ := h
  exact ⟨te, pts_one pe, g⟩
theorem VTs.can {κ1 : Nat} {e : List Expr} {t : TVb} (h : VTs X e t κ1) : PTs X e (canT X.K t κ1) := by
  obtain ⟨te, pe, g⟩ := h
  exact ⟨fun pins s σ H R I ⟨B, F, ρ, Q, er, bq, ht, k⟩ => pe.run pins s σ H R I (g B F H σ ρ Q R er bq ht k)⟩
theorem VTg.can {w : Bool} {e : Expr} {is : List Nat} {t : TGt} (h : VTg w X is e t) : PG X e (canG w X.K is t) := by
  obtain ⟨te, pe, g⟩ := h
  exact ⟨fun pins s σ H v u Q I r ⟨B, F, ρ, d, Q', er, r1, ht, k⟩ => pe.run pins s σ H v u Q I r (g B F H σ ρ v d Q' Q er r1 ht k)⟩
end

/-! ### comprehensions -/
def wipeV (ρ : Env) : List Nat → Env
  | [] => ρ
  | v :: vs => (wipeV ρ vs).set v .un
theorem wipeV_len (ρ : Env) : ∀ vs, (wipeV ρ vs).length = ρ.length
  | [] => rfl
  | v :: vs => by rw [wipeV, List.length_set, wipeV_len ρ vs]
theorem wipeV_some {ρ : Env} {i : Nat} {s : SV} : ∀ {vs : List Nat}, (wipeV ρ vs)[i]? = some s → s ≠ .un → ρ[i]? = some s ∧ i ∉ vs
  | [], h, _ => ⟨h, by simp⟩
  | v :: vs, h, hs => by
    rw [wipeV] at h
    by_cases e : i = v
    · subst e
      exact absurd (getElem?_set_eq h) hs
    · rw [List.getElem?_set_ne (Ne.symm e)] at h
      obtain ⟨h1, h2⟩ := wipeV_some h hs
      exact ⟨h1, by simp [e, h2]⟩
section
variable {K : PySem.W.Frag} {B : Bas} {F F' F1 F2 : FS} {H H' H1 H2 : Hp} {σ : Hs} {ρ ρ' : Env} {s : SV} {u : V}
theorem cells_wipe {vs : List Nat} {a : Addr} (h : cellsOf (wipeV ρ vs) a) : cellsOf ρ a := by
  obtain ⟨i, ns, e⟩ := h
  exact ⟨i, ns, (wipeV_some e (fun z => nomatch z)).1⟩
theorem ER.wipe (er : ER K B F H σ ρ) (vs : List Nat) : ER K B F H (L2.wipe σ vs) (wipeV ρ vs) where
  len := by rw [wipe_length, wipeV_len, er.len]
  sl := fun i s h hn => by
    obtain ⟨h1, h2⟩ := wipeV_some h hn
    rw [wipe_out h2]
    exact er.sl i s h1 hn
  nb := fun i c ds h => er.nb i c ds (wipeV_some h (fun z => nomatch z)).1
  ow := fun i j c c' ds es p h1 h2 h3 h4 => by
    obtain ⟨a1, a2⟩ := wipeV_some h1 (fun z => nomatch z)
    obtain ⟨b1, b2⟩ := wipeV_some h2 (fun z => nomatch z)
    rw [wipe_out a2] at h3
    rw [wipe_out b2] at h4
    exact er.ow i j c c' ds es p a1 b1 h3 h4
  fr := fun i k ds p h1 h2 => by
    obtain ⟨a1, a2⟩ := wipeV_some h1 (fun z => nomatch z)
    rw [wipe_out a2] at h2
    exact ⟨(er.fr i k ds p a1 h2).1, fun c => (er.fr i k ds p a1 h2).2 (cells_wipe c)⟩
  cf := fun a c => er.cf a (cells_wipe c)
  bs := er.bs
  kb := er.kb
  pin := er.pin
  dm := er.dm
theorem csub_cells {ρ ρ' : Env} (h : CSub ρ' ρ) {x : Addr} (c : cellsOf ρ' x) : cellsOf ρ x := by
  obtain ⟨i, ns, e⟩ := c
  obtain ⟨j, e⟩ := h i x ns e
  exact ⟨j, ns, e⟩
theorem csub_wipe {vs : List Nat} : CSub (wipeV ρ vs) ρ := fun i a ns e => ⟨i, (wipeV_some e (fun z => nomatch z)).1⟩
theorem CSub.trans {ρ1 ρ2 ρ3 : Env} (h : CSub ρ1 ρ2) (h' : CSub ρ2 ρ3) : CSub ρ1 ρ3 := fun i a ns e => by
  obtain ⟨j, e⟩ := h i a ns e
  exact h' j a ns e
/-- a step of fewer feeds -/
theorem Ext.sub (a : Ext ρ F H F1 H1) (b : Ext ρ' F1 H1 F2 H2) (h : CSub ρ' ρ) : Ext ρ F H F2 H2 := by
  refine ⟨a.st.trans (b.st.more fun x c => csub_cells h c), b.dm, fun i x ns e => ?_, a.cp⟩
  by_cases z : cellsOf ρ' x
  · obtain ⟨j, ms, q⟩ := z
    obtain ⟨k, q2⟩ := h j x ms q
    have e2 := (a.cl i x ns e).uniq (a.cl k x ms q2)
    subst e2
    exact b.cl j x ns q
  · exact (a.cl i x ns e).keep b.st z
/-- an object that was new when the step began changes -/
theorem Stp.mut {M : Addr → Prop} {p : Addr} {o : HO} (st : Stp M F F' H H') (hp : H p = none) : Stp M F F' H (upd H' p o) := by
  have k : ∀ a u, H a = some u → H' a = some u → upd H' p o a = some u := fun a u e e2 => by rw [upd_ne (ne_of_none e hp)]; exact e2
  refine ⟨⟨st.fr, fun a u f e => k a u e (st.fk a u f e), fun a xs e => k a _ e (st.tp a xs e), fun a u w e => k a _ e (st.fz a u w e)⟩, fun a u e m => k a u e (st.kp a u e m), fun a h => ?_, st.nw, st.ck⟩
  have h2 := st.ex a h
  by_cases z : a = p
  · rw [z] at h; exact absurd hp h
  · rw [upd_ne z]; exact h2
theorem CI.mut {a p : Addr} {ns : Cel} {vs : List V} (c : CI F H a ns) (n1 : a ≠ p) (nf : ¬ F p) : CI F (upd H p (.lst vs)) a ns := by
  obtain ⟨nf', c', j, l, n, e1, e2, e3, cb⟩ := c
  exact ⟨nf', c', j, l, n, by rw [upd_ne n1]; exact e1, e2, by rw [upd_ne (fun z => nf (by rw [← z]; exact e2))]; exact e3, cb⟩

def cLoop (g : TGt) (c : TVb) (t : TV) (w : Env) : List PyData → List PyData → (List PyData → Prop) → Prop
  | [], acc, Q => Q acc
  | d :: ds, acc, Q => g d w fun ρ' => c ρ' fun b => if b = true then t ρ' fun s => ∃ z, datasIn [s] = some [z] ∧ acc.length < 100000 ∧ cLoop g c t w ds (acc ++ [z]) Q else cLoop g c t w ds acc Q
def vLc (it : TVl) (g : TGt) (c : TVb) (t : TV) (vs : List Nat) : TV := fun ρ Q => it ρ fun ds => cLoop g c t (wipeV ρ vs) ds [] fun acc => Q (.own acc)
section
variable {X : Cx} {scope : Scope} {tg iter elt e : Expr} {ifs : List Expr} {is vs : List Nat} {it : TVl} {g : TGt} {c : TVb} {t : TV}
abbrev Bk (X : Cx) (scope : Scope) (P : Cx → Prop) : Prop := ∀ (s : Shared) (H : Hp) (C : Addr) (cl : List (Str × Addr)) (fp : List Addr), P (X.blk s H scope (compEnvC scope cl C X.env) fp)
theorem lc_go {w : Bool} {κ1 κ2 κ3 : Nat} (hi : VI w X tg iter it κ1) (his : ∀ i ∈ is, i ∈ vs) (N : Nat) (ok : List PyData → Prop) (hN : ∀ ds, ok ds → ds.length * (κ2 + κ3) ≤ N) :
    ∃ wi, PI X tg iter wi ∧ RE X (fun ρ Q => it ρ fun ds => ok ds ∧ cLoop g c t (wipeV ρ vs) ds [] fun acc => Q (.own acc)) (κ1 + N) (tLc wi (canG w X.K is g) (canT X.K c κ2) (canE X.K t κ3) vs) := by
  obtain ⟨wi, pi, gi⟩ := hi
  refine ⟨wi, pi, fun B F H σ ρ Q R er bq q k => ?_⟩
  refine gi B F H σ ρ _ _ er (by omega) q fun ds J F1 H1 cq q1 x wk D hD => ?_
  obtain ⟨okd, q1⟩ := q1
  have hN := hN ds okd
  have hD0 : H D = none := by
    by_cases z : H D = none
    · exact z
    · exact absurd hD (x.st.ex D z)
  have er1 := er.step x
  have nf1 : ¬ F1 D := fun z => by
    obtain ⟨xs, e, _⟩ := x.dm D z
    rw [hD] at e; cases e
  refine ⟨fun i m H' => m = ds.length - i ∧ i ≤ ds.length ∧ ∃ (F' : FS) (us : List V) (acc : List PyData), F'.ck ≤ F1.ck + i * (κ2 + κ3) ∧ Ext ρ F1 H1 F' H' ∧ H' D = some (.lst us) ∧ ¬ F' D ∧ RA X.K F' H' us acc ∧ cLoop g c t (wipeV ρ vs) (ds.drop i) acc (fun acc => Q (.own acc)),
    ⟨_, rfl, Nat.zero_le _, F1, [], [], by omega, er1.refl.pure (Stp.new hD) (x.dm.new hD), upd_same, nf1, .nil, q1⟩, ?_⟩
  rintro i m H' ⟨rfl, hi, F', us, acc, ce, x', hD', nf', ra, q'⟩
  have hm1 : i * (κ2 + κ3) ≤ ds.length * (κ2 + κ3) := Nat.mul_le_mul_right _ hi
  have fm : FM F1 F' H1 H' := x'.st.toFM
  by_cases hlt : i < ds.length
  · refine .inr ⟨wk.go i F' H' fm x'.dm hlt, fun H3 => ∃ (F3 : FS) (us : List V) (acc : List PyData), F3.ck ≤ F1.ck + (i + 1) * (κ2 + κ3) ∧ Ext ρ F1 H1 F3 H3 ∧ H3 D = some (.lst us) ∧ ¬ F3 D ∧ RA X.K F3 H3 us acc ∧ cLoop g c t (wipeV ρ vs) (ds.drop (i + 1)) acc (fun acc => Q (.own acc)),
      fun H3 z => ⟨ds.length - (i + 1), by omega, rfl, hlt, z⟩, fun y H2 hy => ?_⟩
    have hd : ds[i]? = some (ds[i]'hlt) := List.getElem?_eq_getElem hlt
    have hm2 : (i + 1) * (κ2 + κ3) ≤ ds.length * (κ2 + κ3) := Nat.mul_le_mul_right _ hlt
    have hm3 : (i + 1) * (κ2 + κ3) = i * (κ2 + κ3) + (κ2 + κ3) := Nat.succ_mul i _
    obtain ⟨F2, c2, st, dm, r⟩ := wk.yld i F' H' y H2 _ fm x'.dm hd hy
    have x2 : Ext ρ F1 H1 F2 H2 := x'.pure st dm
    have keepD : ∀ {F4 : FS} {H4 : Hp} {F5 : FS} {H5 : Hp} {ρ4 : Env} {ws : List V} {zs : List PyData}, Ext ρ4 F4 H4 F5 H5 → CSub ρ4 ρ → H4 D = some (.lst ws) → ¬ F4 D → RA X.K F4 H4 ws zs → H5 D = some (.lst ws) ∧ ¬ F5 D ∧ RA X.K F5 H5 ws zs := by
      intro F4 H4 F5 H5 ρ4 ws zs x4 cs e4 n4 r4
      refine ⟨x4.st.kp _ _ e4 fun c => x.cp D (csub_cells cs c) hD0, fun z => (x4.st.nw D z).elim n4 fun z => ?_, Rp.mono x4.st.toFM r4⟩
      rw [z] at e4; cases e4
    have hD2 : H2 D = some (.lst us) := st.kp _ _ hD' (fun z => z)
    have nf2 : ¬ F2 D := fun z => (st.nw D z).elim nf' fun z => by rw [z] at hD'; cases hD'
    have ra2 : RA X.K F2 H2 us acc := Rp.mono st.toFM ra
    rw [List.drop_eq_getElem_cons hlt] at q'
    have erw := (er1.step x2).wipe vs
    refine ⟨B, F2, wipeV ρ vs, _, _, erw, r, q', fun σ3 ρ3 er3 w3 q3 => ⟨?_, ?_⟩⟩
    · have w4 := w3.1 vs his
      have : ∀ vs' : List Nat, wipe (wipe σ vs') vs' = wipe σ vs' := fun vs' => by
        apply List.ext_getElem?
        intro j
        by_cases hj : j ∈ vs'
        · have no : ∀ τ : Hs, (wipe τ vs')[j]? = (if j < τ.length then some none else none) := fun τ => by
            by_cases hl : j < τ.length
            · rcases e1 : (wipe τ vs')[j]? with _ | o
              · rw [List.getElem?_eq_none_iff, wipe_length] at e1; omega
              · cases o with
                | none => simp [hl]
                | some v => exact absurd hj (wipe_some e1).2
            · rw [List.getElem?_eq_none_iff.mpr (by rw [wipe_length]; omega)]; simp [hl]
          rw [no, no, wipe_length]
        · rw [wipe_out hj]
      rw [w4, this]
    · refine ⟨B, F2, ρ3, _, er3, by omega, q3, fun b F4 H4 c4 q4 x4 => ?_⟩
      have cs3 : CSub ρ3 ρ := w3.2.trans csub_wipe
      obtain ⟨d4, n4, r4⟩ := keepD x4 cs3 hD2 nf2 ra2
      have x4' := x2.sub x4 cs3
      cases b with
      | false => exact ⟨F4, us, acc, by omega, x4', d4, n4, r4, q4⟩
      | true =>
        refine ⟨B, F4, ρ3, _, er3.step x4, by omega, q4, fun s u F5 H5 c5 ⟨z, e5, hz, q5⟩ x5 => ?_⟩
        obtain ⟨F6, c6, x6, r6⟩ := data_all (us := [u]) (ss := [s]) x5.toExt ⟨x5.sr, x5.fo, trivial⟩ e5
        obtain ⟨d5, n5, r5⟩ := keepD x6 cs3 d4 n4 r4
        have x7 := x4'.sub x6 cs3
        refine ⟨us, d5, ?_, F6, us ++ [u], acc ++ [z], by omega, ⟨x7.st.mut hD, ?_, fun j a ns ej => (x7.cl j a ns ej).mut (fun z => x7.cp a ⟨j, ns, ej⟩ (by rw [z]; exact hD)) n5, x7.cp⟩, upd_same, n5, ?_, q5⟩
        · rw [r5.len]; exact Nat.lt_of_lt_of_le hz (by decide)
        · intro a f
          obtain ⟨ws, e, l⟩ := x7.dm a f
          exact ⟨ws, by rw [upd_ne (fun z => n5 (by rw [← z]; exact f))]; exact e, l⟩
        · have m := FM.write (c := .lst) (c' := .lst) (vs := us ++ [u]) d5 n5
          exact RA.append (Rp.mono m r5) (Rp.mono m r6)
  · have e : i = ds.length := by omega
    subst e
    rw [List.drop_length] at q'
    refine .inl ⟨wk.stop F' H' fm x'.dm, k _ _ F' H' (by omega) q' ⟨x.trans x', ⟨D, us, rfl, hD', nf', ra⟩, fun p e => ?_⟩⟩
    cases e
    exact hD0
/-- at most L turns, in whose turns draws are made -/
def vLcL (L : Nat) (it : TVl) (g : TGt) (c : TVb) (t : TV) (vs : List Nat) : TV := fun ρ Q => it ρ fun ds => ds.length ≤ L ∧ cLoop g c t (wipeV ρ vs) ds [] fun acc => Q (.own acc)
theorem vLc_true : (fun (ρ : Env) (Q : SV → Prop) => it ρ fun ds => True ∧ cLoop g c t (wipeV ρ vs) ds [] fun acc => Q (.own acc)) = vLc it g c t vs := by
  funext ρ Q
  unfold vLc
  congr 1
  funext ds
  exact propext ⟨fun h => h.2, fun h => ⟨trivial, h⟩⟩
theorem lc_go0 {w : Bool} {κ1 : Nat} (hi : VI w X tg iter it κ1) (his : ∀ i ∈ is, i ∈ vs) : ∃ wi, PI X tg iter wi ∧ RE X (vLc it g c t vs) κ1 (tLc wi (canG w X.K is g) (canT X.K c 0) (canE X.K t 0) vs) := by
  have h := lc_go (g := g) (c := c) (t := t) (κ2 := 0) (κ3 := 0) hi his 0 (fun _ => True) fun ds _ => by omega
  rw [vLc_true] at h
  exact h
theorem lc_goL {w : Bool} (L : Nat) {κ1 κ2 κ3 : Nat} (hi : VI w X tg iter it κ1) (his : ∀ i ∈ is, i ∈ vs) : ∃ wi, PI X tg iter wi ∧ RE X (vLcL L it g c t vs) (κ1 + L * (κ2 + κ3)) (tLc wi (canG w X.K is g) (canT X.K c κ2) (canE X.K t κ3) vs) :=
  lc_go hi his (L * (κ2 + κ3)) (fun ds => ds.length ≤ L) fun ds h => Nat.mul_le_mul_right _ h
theorem ve_lc {w : Bool} {κ1 κ2 κ3 : Nat} (h : ∀ wi gt tt te, PI X tg iter wi → Bk X scope (PG · tg gt) → Bk X scope (PTs · ifs tt) → Bk X scope (PE · elt te) → PE X e (tLc wi gt tt te vs))
    (hi : VI w X tg iter it κ1) (hg : Bk X scope (VTg w · is tg g)) (hc : Bk X scope (VTs · ifs c κ2)) (he : Bk X scope (VE · elt t κ3)) (his : ∀ i ∈ is, i ∈ vs) (h0 : κ2 + κ3 = 0 := by omega) : VE X e (vLc it g c t vs) κ1 := by
  obtain ⟨rfl, rfl⟩ : κ2 = 0 ∧ κ3 = 0 := ⟨by omega, by omega⟩
  obtain ⟨wi, pi, gi⟩ := lc_go0 (g := g) (c := c) (t := t) hi his
  exact ⟨_, h wi (canG w X.K is g) (canT X.K c 0) (canE X.K t 0) pi (fun s H C cl fp => (hg s H C cl fp).can) (fun s H C cl fp => (hc s H C cl fp).can) (fun s H C cl fp => (he s H C cl fp).can), gi⟩
theorem ve_lcL {w : Bool} (L : Nat) {κ1 κ2 κ3 : Nat} (h : ∀ wi gt tt te, PI X tg iter wi → Bk X scope (PG · tg gt) → Bk X scope (PTs · ifs tt) → Bk X scope (PE · elt te) → PE X e (tLc wi gt tt te vs))
    (hi : VI w X tg iter it κ1) (hg : Bk X scope (VTg w · is tg g)) (hc : Bk X scope (VTs · ifs c κ2)) (he : Bk X scope (VE · elt t κ3)) (his : ∀ i ∈ is, i ∈ vs) : VE X e (vLcL L it g c t vs) (κ1 + L * (κ2 + κ3)) := by
  obtain ⟨wi, pi, gi⟩ := lc_goL (g := g) (c := c) (t := t) (κ2 := κ2) (κ3 := κ3) L hi his
  exact ⟨_, h wi (canG w X.K is g) (canT X.K c κ2) (canE X.K t κ3) pi (fun s H C cl fp => (hg s H C cl fp).can) (fun s H C cl fp => (hc s H C cl fp).can) (fun s H C cl fp => (he s H C cl fp).can), gi⟩
/-- y = [..] on one line -/
theorem vs_setLc {w : Bool} {κ1 κ2 κ3 : Nat} {st : Stmt} {i : Nat} (own : Bool) (h : ∀ wi gt tt te, PI X tg iter wi → Bk X scope (PG · tg gt) → Bk X scope (PTs · ifs tt) → Bk X scope (PE · elt te) → PS X st (tAsg (tLc wi gt tt te vs) (gName i)))
    (hi : VI w X tg iter it κ1) (hg : Bk X scope (VTg w · is tg g)) (hc : Bk X scope (VTs · ifs c κ2)) (he : Bk X scope (VE · elt t κ3)) (his : ∀ i ∈ is, i ∈ vs) (h0 : κ2 + κ3 = 0 := by omega) :
    VS X st (if own = true then vAsgO i (vLc it g c t vs) else vAsg i (vLc it g c t vs)) κ1 := by
  obtain ⟨rfl, rfl⟩ : κ2 = 0 ∧ κ3 = 0 := ⟨by omega, by omega⟩
  obtain ⟨wi, pi, gi⟩ := lc_go0 (g := g) (c := c) (t := t) hi his
  refine ⟨_, h wi (canG w X.K is g) (canT X.K c 0) (canE X.K t 0) pi (fun s H C cl fp => (hg s H C cl fp).can) (fun s H C cl fp => (hc s H C cl fp).can) (fun s H C cl fp => (he s H C cl fp).can), ?_⟩
  cases own with
  | true => exact asgO_go gi
  | false => exact asg_go gi
theorem vs_setLcL {w : Bool} (L : Nat) {κ1 κ2 κ3 : Nat} {st : Stmt} {i : Nat} (own : Bool) (h : ∀ wi gt tt te, PI X tg iter wi → Bk X scope (PG · tg gt) → Bk X scope (PTs · ifs tt) → Bk X scope (PE · elt te) → PS X st (tAsg (tLc wi gt tt te vs) (gName i)))
    (hi : VI w X tg iter it κ1) (hg : Bk X scope (VTg w · is tg g)) (hc : Bk X scope (VTs · ifs c κ2)) (he : Bk X scope (VE · elt t κ3)) (his : ∀ i ∈ is, i ∈ vs) :
    VS X st (if own = true then vAsgO i (vLcL L it g c t vs) else vAsg i (vLcL L it g c t vs)) (κ1 + L * (κ2 + κ3)) := by
  obtain ⟨wi, pi, gi⟩ := lc_goL (g := g) (c := c) (t := t) (κ2 := κ2) (κ3 := κ3) L hi his
  refine ⟨_, h wi (canG w X.K is g) (canT X.K c κ2) (canE X.K t κ3) pi (fun s H C cl fp => (hg s H C cl fp).can) (fun s H C cl fp => (hc s H C cl fp).can) (fun s H C cl fp => (he s H C cl fp).can), ?_⟩
  cases own with
  | true => exact asgO_go gi
  | false => exact asg_go gi
end
end

/-! ### defs -/
abbrev TF := List SV → (SV → Prop) → Prop
/-- a def's promise by its meaning over values -/
def spOf (K : PySem.W.Frag) (n κ : Nat) (t : TF) : Sp := fun vs H R _ => vs.length = n ∧ ∃ F ss, ∃ Q : SV → Prop, FOk F H ∧ AllH K F H vs ss ∧ (∀ s ∈ ss, (∀ c ds, s ≠ .ow c ds) ∧ NoBrw s) ∧ F.ck + κ ≤ LIM ∧ t ss Q ∧
  ∀ s u (F' : FS) H', F'.ck ≤ F.ck + κ → Q s → NoBrw s → Res K ss F H F' H' s u → R u H'
def envOf (N : Nat) (ss : List SV) : Env := ss ++ List.replicate (N - ss.length) .un
def vDef (N : Nat) (t : TVS) : TF := fun ss Q => t ⟨fun _ => Q (.v .none), Q, fun _ => False, fun _ => False⟩ (envOf N ss)
theorem AllH.len {K : PySem.W.Frag} {F : FS} {H : Hp} : ∀ {us : List V} {ss : List SV}, AllH K F H us ss → us.length = ss.length
  | [], [], _ => rfl
  | _ :: _, _ :: _, ⟨_, c⟩ => congrArg Nat.succ (AllH.len c)
  | [], _ :: _, h => h.elim
  | _ :: _, [], h => h.elim
theorem AllH.get {K : PySem.W.Frag} {F : FS} {H : Hp} : ∀ {us : List V} {ss : List SV} (_ : AllH K F H us ss) {i : Nat} {s : SV}, ss[i]? = some s → ∃ u, us[i]? = some u ∧ SlotR K F H u s
  | [], [], _, _, _, e => by simp at e
  | u :: _, _ :: _, ⟨a, _⟩, 0, s, e => by simp at e; subst e; exact ⟨u, rfl, a⟩
  | _ :: _, _ :: _, ⟨_, b⟩, i + 1, s, e => by
    obtain ⟨u, h1, h2⟩ := AllH.get b (i := i) (s := s) (by simpa using e)
    exact ⟨u, by simpa using h1, h2⟩
  | [], _ :: _, h, _, _, _ => h.elim
  | _ :: _, [], h, _, _, _ => h.elim
theorem env_get {N : Nat} {ss : List SV} {i : Nat} {s : SV} (hs : s ≠ .un) (h : (envOf N ss)[i]? = some s) : ss[i]? = some s := by
  unfold envOf at h
  by_cases z : i < ss.length
  · rwa [List.getElem?_append_left z] at h
  · rw [List.getElem?_append_right (by omega), List.getElem?_replicate] at h
    split at h
    · exact absurd (Option.some.inj h).symm hs
    · cases h
/-- a def's frame as it begins -/
def basOf (F : FS) (H : Hp) (ss : List SV) : Bas := ⟨F, H, fun a ns => ∃ i : Nat, ss[i]? = some (.cell a ns), fun _ _ => False⟩
theorem ER.begin {K : PySem.W.Frag} {F : FS} {H : Hp} {vs : List V} {ss : List SV} {N : List Str} (d : FOk F H) (a : AllH K F H vs ss) (no : ∀ s ∈ ss, (∀ c ds, s ≠ .ow c ds) ∧ NoBrw s) :
    ER K (basOf F H ss) F H (start N vs) (envOf N.length ss) := by
  have hl := a.len
  have cell : ∀ {i : Nat} {x : Addr} {ns : Cel}, ss[i]? = some (.cell x ns) → CI F H x ns := fun {i x ns} e => by
    obtain ⟨u, _, _, c⟩ := a.get e
    exact c
  have noOwn : ∀ {i : Nat} {c : CT} {ds : List PyData}, (envOf N.length ss)[i]? ≠ some (.ow c ds) := fun {i c ds} e => by
    have e2 := env_get (s := _) (by intro z; cases z) e
    exact (no _ (List.mem_of_getElem? e2)).1 c ds rfl
  refine ⟨?_, fun i s e hn => ?_, fun i c ds e => ?_, fun i j c c' ds es p h1 _ _ _ => absurd h1 noOwn, fun i c ds p h1 _ => absurd h1 noOwn, fun x ⟨i, ns, e⟩ => .inl ⟨ns, i, env_get (fun z => nomatch z) e⟩, Stp.refl, fun x ns ⟨i, e⟩ => ⟨cell e, (cell e).there⟩, fun x o z => z.elim, d⟩
  · show (List.map some vs ++ List.replicate (N.length - vs.length) none).length = _
    unfold envOf
    simp [hl]
  · have e2 := env_get hn e
    obtain ⟨u, h1, h2⟩ := a.get e2
    refine ⟨u, ?_, h2⟩
    show (List.map some vs ++ List.replicate (N.length - vs.length) none)[i]? = _
    have hi : i < vs.length := (List.getElem?_eq_some_iff.mp h1).1
    rw [List.getElem?_append_left (by simpa using hi), List.getElem?_map, h1]
    rfl
  · have e2 := env_get (s := _) (by intro z; cases z) e
    exact (no _ (List.mem_of_getElem? e2)).2 c ds rfl
theorem Fin.res {K : PySem.W.Frag} {F F' : FS} {H H' : Hp} {ss : List SV} {s : SV} {u : V} (f : Fin K (basOf F H ss) F' H' s u) (nb : NoBrw s) (cp : ∀ a, cellsOf ss a → H a ≠ none) : Res K ss F H F' H' s u := by
  refine ⟨⟨f.st.more fun a ⟨ns, i, e⟩ => ⟨i, ns, e⟩, f.dm, fun i a ns e => f.kb a ns ⟨i, e⟩, cp⟩, f.sr, ?_⟩
  have fo := f.fo
  cases s with
  | ow c ds => exact fo
  | bw c ds => exact absurd rfl (nb c ds)
  | cell a ns => exact fo
  | _ => trivial
/-- where one stands in a def's body -/
structure In (k : Nat) (P : Program) (w : World) (K : PySem.W.Frag) (mg : Str → Option Value) (base : Heap) (X : Cx) : Prop where
  prog : X.prog = P
  w : X.w = w
  K : X.K = K
  mg : X.mg = mg
  base : X.base = base
  rm : Room k X.A
  st : Still X.A
section
variable {P : Program} {w : World} {K : PySem.W.Frag} {mg : Str → Option Value} {base : Heap}
theorem def_body {k κ : Nat} {x qual : Str} {pr : Arguments} {body : List Stmt} {sc : Scope} {dV kV doc pm cdv ct oc : Value} {an od : Option Addr} {osl : Array (Option Value)} {N ps : List Str} {f : Addr} {t : TVS}
    (lk : K.lookup f = some ⟨oc, od, .func (PySem.W.fnOf x qual pr body sc dV kV doc pm an cdv ct), osl⟩) (cd : PySem.W.codeIn K cdv qual = true) (S : FnScope N ps sc)
    (hb : ∀ (A : Around) (outer : List PySem.Env) (s : Shared) (H : Hp) (E : XK), Room k (A.deeper (envOfC qual sc s.heap.objs.size f cdv)) → Still A → ∃ κ', κ' ≤ κ ∧ VSs (cxOf CX0 P w K mg base N qual sc f cdv A outer s H E).nox body t κ') :
    GOk P w K mg base CX0 (k + 1) f (PySem.W.fnOf x qual pr body sc dV kV doc pm an cdv ct) ps (spOf K ps.length κ (vDef N.length t)) := by
  refine gok_of lk cd S (fun vs H Q E h => h.1) fun A gd outer s H vs Q E hr ⟨hl, F, ss, Qv, fo, ah, no, bq, ht, k⟩ => ?_
  obtain ⟨κ', hκ, ts, pss, g⟩ := hb A outer s H E hr gd
  refine ⟨ts, pss.nox, ?_⟩
  have er := ER.begin (N := N) fo ah no
  have cp : ∀ a, cellsOf ss a → H a ≠ none := fun a ⟨i, ns, e⟩ => by
    obtain ⟨u, _, _, c⟩ := ah.get e
    exact c.there
  exact g (basOf F H ss) F H _ _ _ _ er (by omega) ht ⟨fun F' H' σ' ρ' c er' q => k _ _ F' H' (by omega) q (fun _ _ z => nomatch z) ((er'.fin (s := .v .none) ⟨er'.refl, .non, trivial⟩).res (fun _ _ z => nomatch z) cp), fun s u F' H' c q nb f => k s u F' H' (by omega) q nb (f.res nb cp), fun _ _ _ _ _ _ q => q.elim, fun _ _ _ _ _ _ q => q.elim⟩
end
end VL
namespace VL
open PySem PySem.Spec PyProof.Rows L2 VG

section
variable {K : PySem.W.Frag} {B : Bas} {F F' F1 F2 : FS} {H H' H1 H2 : Hp} {σ : Hs} {ρ ρ' : Env} {s : SV} {u : V}
/-- a step of feeds of ours, or of new ones -/
theorem Ext.sub2 (a : Ext ρ F H F1 H1) (b : Ext ρ' F1 H1 F2 H2) (h : ∀ (i : Nat) (x : Addr) (ns : Cel), ρ'[i]? = some (SV.cell x ns) → (∃ j : Nat, ρ[j]? = some (SV.cell x ns)) ∨ H x = none) : Ext ρ F H F2 H2 := by
  have hm : ∀ x, cellsOf ρ' x → cellsOf ρ x ∨ H x = none := fun x ⟨i, ns, e⟩ => (h i x ns e).imp (fun ⟨j, q⟩ => ⟨j, ns, q⟩) id
  refine ⟨a.st.join b.st hm, b.dm, fun i x ns e => ?_, a.cp⟩
  by_cases z : cellsOf ρ' x
  · obtain ⟨j, ms, q⟩ := z
    rcases h j x ms q with ⟨k, q2⟩ | q2
    · have e2 := (a.cl i x ns e).uniq (a.cl k x ms q2)
      subst e2
      exact b.cl j x ns q
    · exact absurd q2 (a.cp x ⟨i, ns, e⟩)
  · exact (a.cl i x ns e).keep b.st z
theorem hands_get : ∀ {ss ts : List SV}, hands ss = some ts → ∀ {i : Nat} {t : SV}, ts[i]? = some t → ∃ s, ss[i]? = some s ∧ s.hand = some t
  | [], ts, e, i, t, h => by cases e; simp at h
  | s :: ss, ts, e, i, t, h => by
    unfold hands at e
    rcases e1 : s.hand with _ | t1
    · rw [e1] at e; cases e
    · rcases e2 : hands ss with _ | ts1
      · rw [e1, e2] at e; cases e
      · rw [e1, e2] at e
        cases e
        cases i with
        | zero => simp at h; subst h; exact ⟨s, rfl, e1⟩
        | succ i =>
          obtain ⟨s', q1, q2⟩ := hands_get e2 (i := i) (t := t) (by simpa using h)
          exact ⟨s', by simpa using q1, q2⟩
theorem AllR.get {Hs : Hp} : ∀ {us : List V} {ss : List SV} (_ : AllR K ρ F H Hs us ss) {i : Nat} {s : SV}, ss[i]? = some s → ∃ u, us[i]? = some u ∧ SlotR K F H u s ∧ Fo ρ Hs u s
  | [], [], _, _, _, e => by simp at e
  | u :: _, _ :: _, ⟨a, b, _⟩, 0, s, e => by simp at e; subst e; exact ⟨u, rfl, a, b⟩
  | _ :: _, _ :: _, ⟨_, _, c⟩, i + 1, s, e => by
    obtain ⟨u, h1, h2⟩ := AllR.get c (i := i) (s := s) (by simpa using e)
    exact ⟨u, by simpa using h1, h2⟩
  | [], _ :: _, h, _, _, _ => h.elim
  | _ :: _, [], h, _, _, _ => h.elim
theorem AllH.append : ∀ {us : List V} {ss : List SV} {vs : List V} {ts : List SV}, AllH K F H us ss → AllH K F H vs ts → AllH K F H (us ++ vs) (ss ++ ts)
  | [], [], _, _, _, h => h
  | _ :: _, _ :: _, _, _, ⟨a, b⟩, h => ⟨a, AllH.append b h⟩
  | [], _ :: _, _, _, h, _ => h.elim
  | _ :: _, [], _, _, h, _ => h.elim
theorem AllH.of_ra : ∀ {us : List V} {ds : List PyData}, RA K F H us ds → AllH K F H us (ds.map SV.v)
  | [], [], .nil => trivial
  | _ :: _, _ :: _, .cons a b => ⟨a, AllH.of_ra b⟩
theorem AllR.hs {Hs : Hp} : ∀ {us : List V} {ss : List SV}, AllR K ρ F H Hs us ss → AllH K F H us ss
  | [], [], _ => trivial
  | _ :: _, _ :: _, ⟨a, _, c⟩ => ⟨a, AllR.hs c⟩
  | [], _ :: _, h => h.elim
  | _ :: _, [], h => h.elim
theorem hand_cell_inv {s : SV} {a : Addr} {ns : Cel} (e : s.hand = some (.cell a ns)) : s = .cell a ns := by
  cases s with
  | ow c ds => exact absurd (Option.some.inj e) CT.fro_cell
  | cell b ms => exact Option.some.inj e
  | _ => cases e
/-- a list of four places that is handed on stands in the frame -/
def inE (s : SV) : List SV → Prop
  | [] => False
  | t :: r => t = s ∨ inE s r
def okTap (ρ : Env) : SV → Prop
  | .cell a ns => inE (.cell a ns) ρ
  | _ => True
def TapsOld (ρ : Env) : List SV → Prop
  | [] => True
  | s :: ss => okTap ρ s ∧ TapsOld ρ ss
theorem inE_at {s : SV} : ∀ {ρ : List SV}, inE s ρ → ∃ i : Nat, ρ[i]? = some s
  | [], h => h.elim
  | t :: r, h => by
    rcases h with h | h
    · exact ⟨0, by rw [h]; rfl⟩
    · obtain ⟨i, e⟩ := inE_at h
      exact ⟨i + 1, by simpa using e⟩
theorem taps_at {a : Addr} {ns : Cel} : ∀ {ss : List SV}, TapsOld ρ ss → SV.cell a ns ∈ ss → ∃ i : Nat, ρ[i]? = some (SV.cell a ns)
  | [], _, h => by cases h
  | s :: ss, ⟨h1, h2⟩, h => by
    rcases List.mem_cons.mp h with h | h
    · subst h
      exact inE_at h1
    · exact taps_at h2 h
/-- arguments handed on to a def; what it leaves -/
theorem call_go {n κ : Nat} {tf : TF} {ts : List SV} {ss : List SV} {us vs : List V} {dss : List PyData} {Q : SV → Prop} {R : VK} (x : Ext ρ F H F1 H1) (al : AllR K ρ F1 H1 H us ss) (old0 : TapsOld ρ ss) (e : hands ss = some ts)
    (hd : ∀ F H, RA K F H vs dss) (hn : ts.length + dss.length = n) (bq : F1.ck + κ ≤ LIM) (h : tf (ts ++ dss.map .v) Q) (k : ∀ s u (F' : FS) H', F'.ck ≤ F1.ck + κ → Q s → Res K ρ F H F' H' s u → R u H') : spOf K n κ tf (us ++ vs) H1 R E0 := by
  have hN := AllR.owns al
  have x2 := x.frz hN
  have ah : AllH K _ H1 us ts := hand_all x al e hN (fun a z => z) fun a ns z q => by
    obtain ⟨i, e⟩ := taps_at old0 z
    exact x.cp a ⟨i, _, e⟩ (hN a q).1
  have ad := (AllH.of_ra (hd (F1.or (ownsIn us ss)) H1))
  refine ⟨?_, _, ts ++ dss.map .v, Q, x2.dm, ah.append ad, fun s hs => ?_, bq, h, fun s u F' H' cq q nb r => ?_⟩
  · rw [List.length_append, ah.len, ad.len, List.length_map]; exact hn
  · rcases List.mem_append.mp hs with hs | hs
    · obtain ⟨i, hi⟩ := List.getElem?_of_mem hs
      obtain ⟨s0, _, q⟩ := hands_get e hi
      refine ⟨fun c ds z => ?_, hand_nb q⟩
      subst z
      exact hand_no q
    · obtain ⟨d, _, rfl⟩ := List.mem_map.mp hs
      exact ⟨(fun _ _ z => nomatch z), (fun _ _ z => nomatch z)⟩
  · have cs : ∀ (i : Nat) (a : Addr) (ns : Cel), (ts ++ dss.map SV.v)[i]? = some (SV.cell a ns) → (∃ j : Nat, ρ[j]? = some (SV.cell a ns)) ∨ H a = none := by
      intro i a ns hi
      by_cases hl : i < ts.length
      · rw [List.getElem?_append_left hl] at hi
        obtain ⟨s0, q1, q2⟩ := hands_get e hi
        have : s0 = .cell a ns := hand_cell_inv q2
        subst this
        obtain ⟨u0, _, _, fo⟩ := al.get q1
        exact fo
      · rw [List.getElem?_append_right (by omega), List.getElem?_map] at hi
        cases hq : dss[i - ts.length]? with
        | none => rw [hq] at hi; cases hi
        | some d => rw [hq] at hi; cases hi
    refine k s u F' H' cq q ⟨x2.sub2 r.toExt cs, r.sr, ?_⟩
    have old : ∀ a, H1 a = none → H a = none := fun a z => by
      by_cases w : H a = none
      · exact w
      · exact absurd z (x.st.ex a w)
    have fo := r.fo
    cases s with
    | ow c ds => exact fun p z => old p (fo p z)
    | bw c ds => exact absurd rfl (nb c ds)
    | cell a ns =>
      rcases fo with ⟨i, z⟩ | z
      · exact cs i a ns z
      · exact .inr (old a z)
    | _ => trivial
end

section
variable {X : Cx} {e : Expr} {es : List Expr}
/-- f(e, ..): dss its defaults -/
def vCall (n : Nat) (tf : TF) (dss : List PyData) (t : TVs) : TV := fun ρ Q => t ρ fun ss => TapsOld ρ ss ∧ ∃ ts, hands ss = some ts ∧ ts.length + dss.length = n ∧ tf (ts ++ dss.map .v) Q
theorem ve_call {κ1 κ : Nat} {n : Nat} {tf : TF} {dvs : List V} {dss : List PyData} {t : TVs} (h : ∀ ta, PA X es ta → PE X e (tCall (spOf X.K n κ tf) dvs E0 ta)) (hd : ∀ F H, RA X.K F H dvs dss) (ha : VA X es t κ1) : VE X e (vCall n tf dss t) (κ1 + κ) := by
  obtain ⟨ta, pa, g⟩ := ha
  refine ⟨_, h ta pa, fun B F H σ ρ Q R er bq t k => ?_⟩
  exact g B F H σ ρ _ _ er (by omega) t fun ss us F1 H1 cq ⟨ol, ts, e, hn, q⟩ x al => call_go x al ol e hd hn (by omega) q fun s u F' H' c => k s u F' H' (by omega)
/-- f() -/
theorem ve_call0 {n κ : Nat} {tf : TF} {dvs : List V} {dss : List PyData} (h : PE X e (tCall (spOf X.K n κ tf) dvs E0 tNil)) (hd : ∀ F H, RA X.K F H dvs dss) : VE X e (vCall n tf dss vNil) κ := by
  refine ⟨_, h, fun B F H σ ρ Q R er bq ⟨ol, ts, e, hn, q⟩ k => ?_⟩
  exact call_go (us := []) (ss := []) er.refl trivial ol e hd hn bq q k
/-- a promise known by less: its meaning by another one that follows -/
theorem spOf.imp {K : PySem.W.Frag} {n κ : Nat} {t t' : TF} (h : ∀ ss Q, t' ss Q → t ss Q) (vs : List V) (H : Hp) (Q : VK) (E : XK) (q : spOf K n κ t' vs H Q E) : spOf K n κ t vs H Q E := by
  obtain ⟨hl, F, ss, Qv, a, b, c, bq, d, k⟩ := q
  exact ⟨hl, F, ss, Qv, a, b, c, bq, h ss Qv d, k⟩

/-! ### built-ins -/
def CallS (K : PySem.W.Frag) (r : List V → Hp → VK → Prop) (f : List SV → (SV → Prop) → Prop) : Prop := ∀ F H us ss (Q : SV → Prop) (R : VK), FOk F H → AllH K F H us ss → f ss Q →
  (∀ s z F' H', Q s → NoBrw s → PRes K F H F' H' s z → R z H') → r us H R
def vCB (f : List SV → (SV → Prop) → Prop) (t : TVs) : TV := fun ρ Q => t ρ fun ss => f ss Q
theorem ve_cb {κ1 : Nat} {r : List V → Hp → VK → Prop} {f : List SV → (SV → Prop) → Prop} {t : TVs} (h : ∀ ta, PA X es ta → PE X e (tCB r ta)) (hs : CallS X.K r f) (ha : VA X es t κ1) : VE X e (vCB f t) κ1 := by
  obtain ⟨ta, pa, g⟩ := ha
  refine ⟨_, h ta pa, fun B F H σ ρ Q R er bq t k => ?_⟩
  exact g B F H σ ρ _ _ er (by omega) t fun ss us F1 H1 cq q x al => hs F1 H1 us ss _ _ x.dm al.hs q fun s z F2 H2 q2 nb r => k s z F2 H2 (by have := r.ce; omega) q2 (r.res x nb)
end

/-! ### what a slot is read as -/
def SV.asL : SV → Option (List PyData)
  | .v (.list ds) => some ds
  | .ow .lst ds => some ds
  | .bw .lst ds => some ds
  | .scr ns => some (ns.map .int)
  | _ => none
def SV.asW : SV → Option (List PyData)
  | .v (.list ds) => some ds
  | .ow .lst ds => some ds
  | .bw .lst ds => some ds
  | _ => none
def SV.asT : SV → Option (List PyData)
  | .v (.tuple ds) => some ds
  | _ => none
def SV.asQ (s : SV) : Option (List PyData) := match s.asL with
  | some ds => some ds
  | none => s.asT
def SV.asD : SV → Option PyData
  | .v d => some d
  | .ow .lst ds => some (.list ds)
  | .bw .lst ds => some (.list ds)
  | .scr ns => some (.list (ns.map .int))
  | _ => none
section
variable {K : PySem.W.Frag} {F : FS} {H : Hp} {s : SV} {u : V} {ds : List PyData}
theorem asL_sq (h : SlotR K F H u s) (e : s.asL = some ds) : ∃ a xs, u = .ref a ∧ SqL K H a xs ∧ RA K F H xs ds := by
  cases s with
  | v d =>
    cases d with
    | list es =>
      cases e
      cases (show R1 K F H u (.list ds) from h) with
      | lst f q r => exact ⟨_, _, rfl, SqL.of q, r⟩
    | _ => cases e
  | ow c es =>
    cases c with
    | lst =>
      cases e
      obtain ⟨p, us, rfl, q, _, r⟩ := h
      exact ⟨p, us, rfl, SqL.of q, r⟩
    | _ => cases e
  | bw c es =>
    cases c with
    | lst =>
      cases e
      obtain ⟨p, us, rfl, q, r⟩ := h
      exact ⟨p, us, rfl, SqL.of q, r⟩
    | _ => cases e
  | scr ns =>
    cases e
    obtain ⟨a, rfl, q⟩ := h
    exact ⟨a, _, rfl, q H fun _ _ _ z => z, RA.ints ns⟩
  | _ => cases e
theorem asW_at (h : SlotR K F H u s) (e : s.asW = some ds) : ∃ a xs, u = .ref a ∧ H a = some (.lst xs) ∧ RA K F H xs ds := by
  cases s with
  | v d =>
    cases d with
    | list es =>
      cases e
      cases (show R1 K F H u (.list ds) from h) with
      | lst f q r => exact ⟨_, _, rfl, q, r⟩
    | _ => cases e
  | ow c es =>
    cases c with
    | lst =>
      cases e
      obtain ⟨p, us, rfl, q, _, r⟩ := h
      exact ⟨p, us, rfl, q, r⟩
    | _ => cases e
  | bw c es =>
    cases c with
    | lst =>
      cases e
      obtain ⟨p, us, rfl, q, r⟩ := h
      exact ⟨p, us, rfl, q, r⟩
    | _ => cases e
  | _ => cases e
theorem asT_sq (h : SlotR K F H u s) (e : s.asT = some ds) : ∃ a xs, u = .ref a ∧ SqN K H a xs ∧ RA K F H xs ds := by
  cases s with
  | v d =>
    cases d with
    | tuple es =>
      cases e
      cases (show R1 K F H u (.tuple ds) from h) with
      | tup q r => exact ⟨_, _, rfl, q, r⟩
    | _ => cases e
  | _ => cases e
theorem asQ_sq (h : SlotR K F H u s) (e : s.asQ = some ds) : ∃ a xs, u = .ref a ∧ (SqL K H a xs ∨ SqN K H a xs) ∧ RA K F H xs ds := by
  unfold SV.asQ at e
  rcases e1 : s.asL with _ | es
  · rw [e1] at e
    obtain ⟨a, xs, q1, q2, q3⟩ := asT_sq h e
    exact ⟨a, xs, q1, .inr q2, q3⟩
  · rw [e1] at e
    cases e
    obtain ⟨a, xs, q1, q2, q3⟩ := asL_sq h e1
    exact ⟨a, xs, q1, .inl q2, q3⟩
theorem nd_ints : ∀ ns : List Int, PyData.hasDictAll (ns.map PyData.int) = false
  | [] => rfl
  | _ :: ns => by simp [PyData.hasDictAll, PyData.hasDict, nd_ints ns]
/-- what a thing is at its top -/
inductive Sh (K : PySem.W.Frag) (H : Hp) : V → PyData → Prop
  | non : Sh K H .non .none
  | bl (b : Bool) : Sh K H (.bl b) (.bool b)
  | int (i : Int) : Sh K H (.int i) (.int i)
  | str (x : Str) : Sh K H (.str x) (.str x)
  | lst {a : Addr} {xs : List V} {ds : List PyData} : SqL K H a xs → Sh K H (.ref a) (.list ds)
  | tup {a : Addr} {xs : List V} {ds : List PyData} : SqT K H a xs → Sh K H (.ref a) (.tuple ds)
  | dic {a : Addr} {kvs : List (L2.Key × V)} {l : List (PyData × PyData)} : H a = some (.dK kvs) → Sh K H (.ref a) (.dict l)
theorem R1.sh {d : PyData} (h : R1 K F H u d) : Sh K H u d := by
  cases h with
  | non => exact .non
  | bl b => exact .bl b
  | int i => exact .int i
  | str x => exact .str x
  | lst _ q _ => exact .lst (SqL.of q)
  | tup q _ => exact .tup q.t
  | dic _ q _ => exact .dic q
theorem asD_sh {d : PyData} (h : SlotR K F H u s) (e : s.asD = some d) : Sh K H u d := by
  cases s with
  | v d' => cases e; exact R1.sh h
  | ow c es =>
    cases c with
    | lst =>
      obtain ⟨a, xs, rfl, q2, q3⟩ := asL_sq (ds := es) h rfl
      cases e
      exact .lst q2
    | _ => cases e
  | bw c es =>
    cases c with
    | lst =>
      obtain ⟨a, xs, rfl, q2, q3⟩ := asL_sq (ds := es) h rfl
      cases e
      exact .lst q2
    | _ => cases e
  | scr ns =>
    obtain ⟨a, xs, rfl, q2, q3⟩ := asL_sq (ds := ns.map .int) h rfl
    cases e
    exact .lst q2
  | _ => cases e
theorem asD_dp {d : PyData} (h : SlotR K F H u s) (e : s.asD = some d) (nd : d.hasDict = false) : Dp K H u d := by
  cases s with
  | v d' => cases e; exact R1.dp h nd
  | ow c es =>
    cases c with
    | lst =>
      obtain ⟨a, xs, rfl, q2, q3⟩ := asL_sq (ds := es) h rfl
      cases e
      exact .lst q2 (RA.dp q3 (by simpa [PyData.hasDict] using nd))
    | _ => cases e
  | bw c es =>
    cases c with
    | lst =>
      obtain ⟨a, xs, rfl, q2, q3⟩ := asL_sq (ds := es) h rfl
      cases e
      exact .lst q2 (RA.dp q3 (by simpa [PyData.hasDict] using nd))
    | _ => cases e
  | scr ns =>
    obtain ⟨a, xs, rfl, q2, q3⟩ := asL_sq (ds := ns.map .int) h rfl
    cases e
    exact .lst q2 (RA.dp q3 (nd_ints ns))
  | _ => cases e
theorem str_of {x : Str} (h : SlotR K F H u (.v (.str x))) : u = .str x := by
  cases (show R1 K F H u (.str x) from h) with
  | str x => rfl

/-! ### operations -/
abbrev FB := SV → SV → (SV → Prop) → Prop
/-- of two ints -/
def fII (C : Int → Int → Prop) (g : Int → Int → PyData) : FB := fun a b Q => ∃ i j, a = .v (.int i) ∧ b = .v (.int j) ∧ C i j ∧ Q (.v (g i j))
theorem ops_II {C : Int → Int → Prop} {gv : Int → Int → V} {g : Int → Int → PyData} (h : ∀ i j F H, R1 K F H (gv i j) (g i j)) : OpS K (rI C gv) (fII C g) := by
  intro F H u w a b Q R fo ra rb ⟨i, j, e1, e2, c, q⟩ k
  subst e1 e2
  exact ⟨i, j, int_of ra, int_of rb, c, k _ _ F H q (fun _ _ z => nomatch z) (.same fo (h i j F H))⟩
theorem ops_II0 {gv : Int → Int → V} {g : Int → Int → PyData} (h : ∀ i j F H, R1 K F H (gv i j) (g i j)) : OpS K (rI0 gv) (fII (fun _ _ => True) g) := by
  intro F H u w a b Q R fo ra rb ⟨i, j, e1, e2, _, q⟩ k
  subst e1 e2
  exact ⟨i, j, int_of ra, int_of rb, k _ _ F H q (fun _ _ z => nomatch z) (.same fo (h i j F H))⟩
theorem i1 (f : Int → Int → Int) : ∀ i j F H, R1 K F H (.int (f i j)) (.int (f i j)) := fun _ _ _ _ => .int _
theorem b1 (f : Int → Int → Bool) : ∀ i j F H, R1 K F H (.bl (f i j)) (.bool (f i j)) := fun _ _ _ _ => .bl _
abbrev r2or (r r' : R2) : R2 := fun x y H Q => r x y H Q ∨ r' x y H Q
theorem ops_or {r r' : R2} {f f' : FB} (h : OpS K r f) (h' : OpS K r' f') : OpS K (r2or r r') (fun a b Q => f a b Q ∨ f' a b Q) := by
  intro F H u w a b Q R fo ra rb q k
  rcases q with q | q
  · exact .inl (h F H u w a b Q R fo ra rb q k)
  · exact .inr (h' F H u w a b Q R fo ra rb q k)
/-- a + b: ints, texts, lists, tuples -/
abbrev rStrCat : R2 := fun x y H Q => ∃ i j, x = .str i ∧ y = .str j ∧ i.length + j.length ≤ sizeLine ∧ Q (.str (i ++ j)) H
def fAdd : FB := fun a b Q => match a, b with
  | .v (.int i), .v (.int j) => Q (.v (.int (i + j)))
  | .v (.str x), .v (.str y) => x.length + y.length ≤ sizeLine ∧ Q (.v (.str (x ++ y)))
  | .v (.tuple xs), .v (.tuple ys) => xs.length + ys.length ≤ sizeLine ∧ Q (.v (.tuple (xs ++ ys)))
  | .v (.bool x), .v (.int j) => Q (.v (.int ((if x = true then 1 else 0) + j)))
  | a, b => ∃ xs ys, a.asW = some xs ∧ b.asW = some ys ∧ xs.length + ys.length ≤ sizeLine ∧ Q (.own (xs ++ ys))
abbrev rBI (g : Bool → Int → Int) : R2 := fun x y H Q => ∃ b j, x = .bl b ∧ y = .int j ∧ Q (.int (g b j)) H
abbrev rIB (g : Int → Bool → Int) : R2 := fun x y H Q => ∃ j b, x = .int j ∧ y = .bl b ∧ Q (.int (g j b)) H
theorem op_addBI {X : Cx} : OpR X (binaryOp .Add) (rBI fun b j => (if b = true then 1 else 0) + j) := by
  intro pins s σ H x y v u Q I rx ry h
  obtain ⟨b, j, rfl, rfl, q⟩ := h
  obtain ⟨t, rfl⟩ := ry
  cases rx
  exact IntBool.add_bool_int ⟨.int _, H, Inv.tok I (s.toks + 1), ⟨s.toks, rfl⟩, q⟩
theorem op_subBI {X : Cx} : OpR X (binaryOp .Sub) (rBI fun b j => (if b = true then 1 else 0) - j) := by
  intro pins s σ H x y v u Q I rx ry h
  obtain ⟨b, j, rfl, rfl, q⟩ := h
  obtain ⟨t, rfl⟩ := ry
  cases rx
  exact IntBool.sub_bool_int ⟨.int _, H, Inv.tok I (s.toks + 1), ⟨s.toks, rfl⟩, q⟩
theorem op_subIB {X : Cx} : OpR X (binaryOp .Sub) (rIB fun j b => j - (if b = true then 1 else 0)) := by
  intro pins s σ H x y v u Q I rx ry h
  obtain ⟨j, b, rfl, rfl, q⟩ := h
  obtain ⟨t, rfl⟩ := rx
  cases ry
  exact IntBool.sub_int_bool ⟨.int _, H, Inv.tok I (s.toks + 1), ⟨s.toks, rfl⟩, q⟩
abbrev rAddAll (K : PySem.W.Frag) : R2 := r2or (rI0 fun i j => .int (i + j)) (r2or rStrCat (r2or (rCatN K) (r2or rCat (rBI fun b j => (if b = true then 1 else 0) + j))))
theorem op_addAll {X : Cx} : OpR X (binaryOp .Add) (rAddAll X.K) := op_add.or (op_add_str.or (op_catN.or (op_cat.or op_addBI)))
theorem ops_add : OpS K (rAddAll K) fAdd := by
  intro F H u w a b Q R fo ra rb q k
  have lists : (∃ xs ys, a.asW = some xs ∧ b.asW = some ys ∧ xs.length + ys.length ≤ sizeLine ∧ Q (.own (xs ++ ys))) → rAddAll K u w H R := by
    rintro ⟨xs, ys, e1, e2, hz, q⟩
    obtain ⟨p, us, rfl, h1, r1⟩ := asW_at ra e1
    obtain ⟨p', ws, rfl, h2, r2⟩ := asW_at rb e2
    exact .inr (.inr (.inr (.inl ⟨p, p', us, ws, rfl, rfl, h1, h2, by rw [r1.len, r2.len]; exact hz, fun l hl => k _ _ _ _ q (fun _ _ z => nomatch z) (.newL fo hl (r1.append r2))⟩)))
  unfold fAdd at q
  split at q
  · rw [int_of ra, int_of rb]
    exact .inl ⟨_, _, rfl, rfl, k _ _ F H q (fun _ _ z => nomatch z) (.same fo (.int _))⟩
  · rw [str_of ra, str_of rb]
    exact .inr (.inl ⟨_, _, rfl, rfl, q.1, k _ _ F H q.2 (fun _ _ z => nomatch z) (.same fo (.str _))⟩)
  · rename_i xs ys
    obtain ⟨hz, q⟩ := q
    cases (show R1 K F H u (.tuple xs) from ra) with
    | tup h1 r1 =>
      cases (show R1 K F H w (.tuple ys) from rb) with
      | tup h2 r2 =>
        refine .inr (.inr (.inl ⟨_, _, _, _, rfl, rfl, h1.t, h2.t, by rw [RA.len r1, RA.len r2]; exact hz, fun e => ?_, fun _ e => ?_, fun _ _ p o nd hp => ?_⟩))
        · subst e
          have : xs = [] := List.eq_nil_of_length_eq_zero (RA.len r1).symm
          subst this
          exact k _ _ F H q (fun _ _ z => nomatch z) (.same fo (.tup h2 r2))
        · subst e
          have : ys = [] := List.eq_nil_of_length_eq_zero (RA.len r2).symm
          subst this
          refine k _ _ F H q (fun _ _ z => nomatch z) (.same fo (.tup h1 ?_))
          rw [List.append_nil]; exact r1
        · exact k _ _ _ _ q (fun _ _ z => nomatch z) (.newT fo nd hp (RA.append r1 r2))
  · rw [int_of rb]
    cases (show R1 K F H u (.bool _) from ra)
    exact .inr (.inr (.inr (.inr ⟨_, _, rfl, rfl, k _ _ F H q (fun _ _ z => nomatch z) (.same fo (.int _))⟩)))
  · exact lists q
/-- a == b, a != b -/
def eqD (d e : PyData) (P : Bool → Prop) : Prop := match d, e with
  | .int i, .int j => P (i == j)
  | .str x, .str y => P (x == y)
  | .bool x, .bool y => P (x == y)
  | d, e => SeqAt.shaped d = true ∧ SeqAt.shaped e = true ∧ P (PyData.eqv d e)
theorem eqD_nd {d e : PyData} {P : Bool → Prop} (h : eqD d e P) : d.hasDict = false ∧ e.hasDict = false := by
  unfold eqD at h
  split at h
  · exact ⟨rfl, rfl⟩
  · exact ⟨rfl, rfl⟩
  · exact ⟨rfl, rfl⟩
  · exact ⟨PyData.hasDict_of_canLay _ (SeqAt.canLay_of_shaped h.1), PyData.hasDict_of_canLay _ (SeqAt.canLay_of_shaped h.2.1)⟩
def fEq (neg : Bool) : FB := fun a b Q => ∃ d e, a.asD = some d ∧ b.asD = some e ∧ eqD d e fun c => Q (.v (.bool (if neg then !c else c)))
theorem dp_int {i : Int} (h : Dp K H u (.int i)) : u = .int i := by cases h; rfl
theorem dp_str {x : Str} (h : Dp K H u (.str x)) : u = .str x := by cases h; rfl
theorem dp_bl {b : Bool} (h : Dp K H u (.bool b)) : u = .bl b := by cases h; rfl
theorem ops_eq : OpS K (r2or rEq (rEqD K)) (fEq false) := by
  intro F H u w a b Q R fo ra rb ⟨d, e, e1, e2, q⟩ k
  have d1 := asD_dp ra e1 (eqD_nd q).1
  have d2 := asD_dp rb e2 (eqD_nd q).2
  unfold eqD at q
  split at q
  · rw [dp_int d1, dp_int d2]
    refine .inl ⟨rfl, ?_⟩
    rw [dec_int]
    exact k _ _ F H q (fun _ _ z => nomatch z) (.same fo (.bl _))
  · rw [dp_str d1, dp_str d2]
    refine .inl ⟨rfl, ?_⟩
    rw [dec_str]
    exact k _ _ F H q (fun _ _ z => nomatch z) (.same fo (.bl _))
  · rw [dp_bl d1, dp_bl d2]
    refine .inl ⟨rfl, ?_⟩
    rw [dec_bl]
    exact k _ _ F H q (fun _ _ z => nomatch z) (.same fo (.bl _))
  · exact .inr ⟨_, _, d1, d2, q.1, q.2.1, k _ _ F H q.2.2 (fun _ _ z => nomatch z) (.same fo (.bl _))⟩
theorem ops_ne : OpS K (r2or rNe (rNeD K)) (fEq true) := by
  intro F H u w a b Q R fo ra rb ⟨d, e, e1, e2, q⟩ k
  have d1 := asD_dp ra e1 (eqD_nd q).1
  have d2 := asD_dp rb e2 (eqD_nd q).2
  unfold eqD at q
  split at q
  · rw [dp_int d1, dp_int d2]
    refine .inl ⟨rfl, ?_⟩
    rw [dec_int]
    exact k _ _ F H q (fun _ _ z => nomatch z) (.same fo (.bl _))
  · rw [dp_str d1, dp_str d2]
    refine .inl ⟨rfl, ?_⟩
    rw [dec_str]
    exact k _ _ F H q (fun _ _ z => nomatch z) (.same fo (.bl _))
  · rw [dp_bl d1, dp_bl d2]
    refine .inl ⟨rfl, ?_⟩
    rw [dec_bl]
    exact k _ _ F H q (fun _ _ z => nomatch z) (.same fo (.bl _))
  · exact .inr ⟨_, _, d1, d2, q.1, q.2.1, k _ _ F H q.2.2 (fun _ _ z => nomatch z) (.same fo (.bl _))⟩
theorem op_eqAll {X : Cx} (hu : X.A.units + 64 < cLine) : OpR X (compareOp .Eq) (r2or rEq (rEqD X.K)) := op_eq.or (op_eqD hu)
theorem op_neAll {X : Cx} (hu : X.A.units + 64 < cLine) : OpR X (compareOp .NotEq) (r2or rNe (rNeD X.K)) := op_ne.or (op_neD hu)
/-- a is None, a is not None -/
def isNoneD : PyData → Bool
  | .none => true
  | _ => false
def fIsN (neg : Bool) : FB := fun a b Q => ∃ d, a.asD = some d ∧ b = .v .none ∧ Q (.v (.bool (if neg then !isNoneD d else isNoneD d)))
theorem dp_non {d : PyData} (h : Sh K H u d) : decide (u = .non) = isNoneD d := by
  cases h <;> rfl
theorem non_of (h : SlotR K F H u (.v .none)) : u = .non := by
  cases (show R1 K F H u .none from h) with
  | non => rfl
theorem ops_isN : OpS K (fun x y H Q => y = .non ∧ Q (.bl (decide (x = .non))) H) (fIsN false) := by
  intro F H u w a b Q R fo ra rb ⟨d, e1, e2, q⟩ k
  subst e2
  refine ⟨non_of rb, ?_⟩
  rw [dp_non (asD_sh ra e1)]
  exact k _ _ F H q (fun _ _ z => nomatch z) (.same fo (.bl _))
theorem ops_notN : OpS K (fun x y H Q => y = .non ∧ Q (.bl (!decide (x = .non))) H) (fIsN true) := by
  intro F H u w a b Q R fo ra rb ⟨d, e1, e2, q⟩ k
  subst e2
  refine ⟨non_of rb, ?_⟩
  rw [dp_non (asD_sh ra e1)]
  exact k _ _ F H q (fun _ _ z => nomatch z) (.same fo (.bl _))
/-- a[i] -/
def fIx : FB := fun a b Q => ∃ i, b = .v (.int i) ∧ ((∃ ds d, a.asQ = some ds ∧ atI ds i = some d ∧ Q (.v d)) ∨ ∃ z c, a = .v (.str z) ∧ z.length ≤ sizeLine ∧ atI z.cps.toList i = some c ∧ Q (.v (.str ⟨#[c]⟩)))
theorem RA.atI {us : List V} (h : RA K F H us ds) {i : Int} {d : PyData} (e : L2.atI ds i = some d) : ∃ v, L2.atI us i = some v ∧ R1 K F H v d := by
  unfold L2.atI at *
  rw [h.len]
  rcases e1 : ixN ds.length i with _ | j
  · rw [e1] at e; cases e
  · rw [e1] at e
    exact h.get e
theorem ops_ix : OpS K (rIx K) fIx := by
  intro F H u w a b Q R fo ra rb ⟨i, e, q⟩ k
  subst e
  rw [int_of rb]
  rcases q with ⟨ds, d, e1, e2, q⟩ | ⟨z, c, e1, hz, e2, q⟩
  · obtain ⟨p, xs, rfl, sq, r⟩ := asQ_sq ra e1
    obtain ⟨v, h1, h2⟩ := r.atI e2
    rcases sq with sq | sq
    · exact .inl ⟨p, xs, i, v, rfl, rfl, sq, h1, k _ _ F H q (fun _ _ z => nomatch z) (.same fo h2)⟩
    · exact .inr (.inl ⟨p, xs, i, v, rfl, rfl, sq.t, h1, k _ _ F H q (fun _ _ z => nomatch z) (.same fo h2)⟩)
  · subst e1
    rw [str_of ra]
    exact .inr (.inr ⟨z, i, c, rfl, rfl, hz, e2, k _ _ F H q (fun _ _ z => nomatch z) (.same fo (.str _))⟩)
end
end VL
namespace VL
open PySem PySem.Spec PyProof.Rows L2 VG

section
variable {K : PySem.W.Frag} {F : FS} {H : Hp} {s : SV} {u : V} {ds : List PyData}
theorem ah1 {us : List V} (h : AllH K F H us [s]) : ∃ u, us = [u] ∧ SlotR K F H u s := by
  match us, h with
  | [u], ⟨a, _⟩ => exact ⟨u, rfl, a⟩
theorem ah2 {us : List V} {t : SV} (h : AllH K F H us [s, t]) : ∃ u w, us = [u, w] ∧ SlotR K F H u s ∧ SlotR K F H w t := by
  match us, h with
  | [u, w], ⟨a, b, _⟩ => exact ⟨u, w, rfl, a, b⟩
abbrev FC := List SV → (SV → Prop) → Prop
/-! ### repr -/
/-- it can be shown -/
def Shw (d : PyData) : Prop := d.showable = true ∧ d.hasDict = false ∧ d.depth ≤ 64 ∧ d.shown.length ≤ sizeLine
def rRepr (K : PySem.W.Frag) : List V → Hp → VK → Prop := fun xs H Q => ∃ x d, xs = [x] ∧ Dp K H x d ∧ Shw d ∧ Q (.str d.shown) H
theorem call_repr {X : Cx} {k : Nat} (hr : Room k X.A) (gd : Still X.A) : CallR X (.builtin "repr") (rRepr X.K) := by
  intro pins s σ H xs us Q I r h
  obtain ⟨x, d, rfl, hd, ⟨h1, h2, h3, h4⟩, q⟩ := h
  obtain ⟨v, rfl, rv⟩ := vals1 r
  obtain ⟨as, rd⟩ := Dp.reads I d x v hd rv
  have end_ : ∀ (z : Str) (t : Nat), z = d.shown → EP X pins σ Q (.str z t) { s with toks := s.toks + 1 } := fun z t e => ⟨.str z, H, I.tok _, ⟨_, rfl⟩, by rw [e]; exact q⟩
  cases hd with
  | non => cases rv; exact PySem.P.repr_of_none (end_ _ _ rfl)
  | bl b => cases rv; exact PySem.P.repr_of_bool (end_ _ _ rfl)
  | int i =>
    obtain ⟨t, rfl⟩ := rv
    exact PySem.P.repr_of_int (by simpa [PyData.showable] using h1) (end_ _ _ rfl)
  | str x =>
    obtain ⟨t, rfl⟩ := rv
    exact PySem.P.repr_of_str (end_ _ _ rfl) (by simpa [PyData.shown] using h4)
  | lst a b =>
    cases rv
    exact repr_of_reads' rd h1 (PyData.noDict_hsm h2) gd (by have := hr.un; omega) (fun _ _ e => e) (fun h' u tk hk => ⟨.str _, H, I.kept hk, ⟨_, rfl⟩, q⟩) h4
  | tup a b =>
    cases rv
    exact repr_of_reads' rd h1 (PyData.noDict_hsm h2) gd (by have := hr.un; omega) (fun _ _ e => e) (fun h' u tk hk => ⟨.str _, H, I.kept hk, ⟨_, rfl⟩, q⟩) h4
def fRepr : FC := fun ss Q => ∃ s d, ss = [s] ∧ s.asD = some d ∧ Shw d ∧ Q (.v (.str d.shown))
theorem cs_repr : CallS K (rRepr K) fRepr := by
  intro F H us ss Q R fo al ⟨s, d, e, e1, hs, q⟩ k
  subst e
  obtain ⟨u, rfl, h⟩ := ah1 al
  exact ⟨u, d, rfl, asD_dp h e1 hs.2.1, hs, k _ _ F H q (fun _ _ z => nomatch z) (.same fo (.str _))⟩
/-! ### len, list, tuple -/
def fLen : FC := fun ss Q => (∃ s ds, ss = [s] ∧ s.asQ = some ds ∧ Q (.v (.int ds.length))) ∨ ∃ z : Str, ss = [.v (.str z)] ∧ z.length ≤ sizeLine ∧ Q (.v (.int z.length))
abbrev rLen (K : PySem.W.Frag) : List V → Hp → VK → Prop := fun xs H Q => (∃ p ys, xs = [.ref p] ∧ (SqL K H p ys ∨ SqT K H p ys) ∧ Q (.int ys.length) H) ∨ ∃ z, xs = [.str z] ∧ z.length ≤ sizeLine ∧ Q (.int z.length) H
theorem call_lenA {X : Cx} : CallR X (.builtin "len") (rLen X.K) := call_len_seq.or call_len_str
theorem cs_len : CallS K (rLen K) fLen := by
  intro F H us ss Q R fo al q k
  rcases q with ⟨s, ds, e, e1, q⟩ | ⟨z, e, hz, q⟩
  · subst e
    obtain ⟨u, rfl, h⟩ := ah1 al
    obtain ⟨a, xs, rfl, sq, r⟩ := asQ_sq h e1
    refine .inl ⟨a, xs, rfl, sq.imp id SqN.t, ?_⟩
    rw [r.len]
    exact k _ _ F H q (fun _ _ z => nomatch z) (.same fo (.int _))
  · subst e
    obtain ⟨u, rfl, h⟩ := ah1 al
    rw [str_of h]
    exact .inr ⟨z, rfl, hz, k _ _ F H q (fun _ _ z => nomatch z) (.same fo (.int _))⟩
def fList : FC := fun ss Q => ∃ s ds, ss = [s] ∧ s.asQ = some ds ∧ Q (.own ds)
abbrev rListOf (K : PySem.W.Frag) : List V → Hp → VK → Prop := fun xs H Q => ∃ p ys, xs = [.ref p] ∧ (SqL K H p ys ∨ SqT K H p ys) ∧ ∀ l, H l = none → Q (.ref l) (upd H l (.lst ys))
theorem cs_list : CallS K (rListOf K) fList := by
  intro F H us ss Q R fo al ⟨s, ds, e, e1, q⟩ k
  subst e
  obtain ⟨u, rfl, h⟩ := ah1 al
  obtain ⟨a, xs, rfl, sq, r⟩ := asQ_sq h e1
  exact ⟨a, xs, rfl, sq.imp id SqN.t, fun l hl => k _ _ _ _ q (fun _ _ z => nomatch z) (.newL fo hl r)⟩
def fTuple : FC := fun ss Q => ∃ s ds, ss = [s] ∧ s.asQ = some ds ∧ Q (.v (.tuple ds))
abbrev rTupleOf (K : PySem.W.Frag) : List V → Hp → VK → Prop := rTupOfN K
theorem cs_tuple : CallS K (rTupleOf K) fTuple := by
  intro F H us ss Q R fo al ⟨s, ds, e, e1, q⟩ k
  subst e
  obtain ⟨u, rfl, h⟩ := ah1 al
  obtain ⟨a, xs, rfl, sq, r⟩ := asQ_sq h e1
  refine ⟨a, xs, rfl, sq.imp (fun sq => ⟨sq, fun l o nd hl => k _ _ _ _ q (fun _ _ z => nomatch z) (.newT fo nd hl r)⟩) fun sq => ⟨sq.t, k _ _ F H q (fun _ _ z => nomatch z) (.same fo (.tup sq r))⟩⟩
/-! ### ints -/
def fI1 (g : Int → Int) : FC := fun ss Q => ∃ i, ss = [.v (.int i)] ∧ Q (.v (.int (g i)))
def fI2 (g : Int → Int → Int) : FC := fun ss Q => ∃ i j, ss = [.v (.int i), .v (.int j)] ∧ Q (.v (.int (g i j)))
theorem cs_i1 {g : Int → Int} : CallS K (fun xs H Q => ∃ i, xs = [.int i] ∧ Q (.int (g i)) H) (fI1 g) := by
  intro F H us ss Q R fo al ⟨i, e, q⟩ k
  subst e
  obtain ⟨u, rfl, h⟩ := ah1 al
  rw [int_of h]
  exact ⟨i, rfl, k _ _ F H q (fun _ _ z => nomatch z) (.same fo (.int _))⟩
theorem cs_i2 {g : Int → Int → Int} : CallS K (fun xs H Q => ∃ i j, xs = [.int i, .int j] ∧ Q (.int (g i j)) H) (fI2 g) := by
  intro F H us ss Q R fo al ⟨i, j, e, q⟩ k
  subst e
  obtain ⟨u, w, rfl, h1, h2⟩ := ah2 al
  rw [int_of h1, int_of h2]
  exact ⟨i, j, rfl, k _ _ F H q (fun _ _ z => nomatch z) (.same fo (.int _))⟩
theorem data_ints : ∀ {us : List V} {ns : List Int}, RA K F H us (ns.map PyData.int) → us = ns.map V.int
  | [], [], _ => rfl
  | _ :: _, [], h => by cases h
  | [], _ :: _, h => by cases h
  | u :: us, n :: ns, h => by
    cases h with
    | cons a b =>
      cases a with
      | int i => rw [data_ints b]; rfl
def fSum : FC := fun ss Q => ∃ (s : SV) (ns : List Int), ss = [s] ∧ s.asL = some (ns.map PyData.int) ∧ Q (.v (.int ns.sum))
theorem cs_sum : CallS K (rSum K) fSum := by
  intro F H us ss Q R fo al ⟨s, ns, e, e1, q⟩ k
  subst e
  obtain ⟨u, rfl, h⟩ := ah1 al
  obtain ⟨a, xs, rfl, sq, r⟩ := asL_sq h e1
  rw [data_ints r] at sq
  exact ⟨a, ns, rfl, sq, k _ _ F H q (fun _ _ z => nomatch z) (.same fo (.int _))⟩
end

/-! ### slices -/
def cutD (xs : List PyData) (lo hi : Option Int) : List PyData := (xs.drop (HT.sIx xs.length 0 lo)).take (HT.sIx xs.length xs.length hi - HT.sIx xs.length 0 lo)
section
variable {X : Cx} {K : PySem.W.Frag} {F : FS} {H : Hp} {s : SV} {u : V} {ds : List PyData}
theorem RA.cut {us : List V} (h : RA K F H us ds) (lo hi : Option Int) : RA K F H (cutV us lo hi) (cutD ds lo hi) := by
  unfold cutV cutD
  rw [h.len]
  exact (h.drop _).take _
abbrev TVo := Env → (Option Int → Prop) → Prop
def VO (X : Cx) (e : Option Expr) (t : TVo) (κ : Nat) : Prop := ∃ te, PO X e te ∧
  ∀ B F H σ ρ (Q : Option Int → Prop) (R : Option Int → Hp → Prop), ER X.K B F H σ ρ → F.ck + κ ≤ LIM → t ρ Q → (∀ o (F' : FS) H', F'.ck ≤ F.ck + κ → Q o → Ext ρ F H F' H' → R o H') → te σ H R
theorem vo_none : VO X none (fun _ Q => Q none) 0 := ⟨_, po_none, fun B F H σ ρ Q R er bq t k => k none F H (by omega) t er.refl⟩
theorem vo_some {κ1 : Nat} {e : Expr} {t : TV} (h : VE X e t κ1) : VO X (some e) (fun ρ Q => t ρ fun s => isI s fun i => Q (some i)) κ1 := by
  obtain ⟨te, pe, g⟩ := h
  refine ⟨_, po_some pe, fun B F H σ ρ Q R er bq t k => ?_⟩
  refine g B F H σ ρ _ _ er (by omega) t fun s u F' H' cq ⟨i, e, q⟩ x => ?_
  subst e
  exact ⟨i, int_of x.sr, k _ F' H' (by omega) q x.toExt⟩
abbrev rSlAll (K : PySem.W.Frag) : V → Option Int → Option Int → Hp → VK → Prop := fun x lo hi H Q => rSlL K x lo hi H Q ∨ rSlN K x lo hi H Q ∨ rSlS x lo hi H Q
theorem sl_all : SlR X (rSlAll X.K) := sl_list.or (sl_tupN.or sl_str)
def vSl (t : TV) (tl th : TVo) : TV := fun ρ Q => t ρ fun s => tl ρ fun lo => th ρ fun hi =>
  (∃ ds, s.asL = some ds ∧ Q (.own (cutD ds lo hi))) ∨ (∃ ds, s.asT = some ds ∧ Q (.v (.tuple (cutD ds lo hi)))) ∨ ∃ z : Str, s = .v (.str z) ∧ z.length ≤ sizeLine ∧ Q (.v (.str (cutS z lo hi)))
theorem cut_whole {xs : List PyData} {lo hi : Option Int} (h1 : HT.sIx xs.length 0 lo = 0) (h2 : HT.sIx xs.length xs.length hi = xs.length) : cutD xs lo hi = xs := by
  unfold cutD
  rw [h1, h2]
  simp
theorem ve_sl {κ1 κ2 κ3 : Nat} {e : Expr} {lo hi : Option Expr} {t : TV} {tl th : TVo} {p2 pos : Pos} (h : VE X e t κ1) (hl : VO X lo tl κ2) (hh : VO X hi th κ3) : VE X (.Subscript e (.Slice lo hi none p2) pos) (vSl t tl th) (κ1 + κ2 + κ3) := by
  obtain ⟨te, pe, g⟩ := h
  obtain ⟨tle, pl, gl⟩ := hl
  obtain ⟨the, ph, gh⟩ := hh
  refine ⟨_, pe_slice sl_all pe pl ph, fun B F H σ ρ Q R er bq t k => ?_⟩
  refine g B F H σ ρ _ _ er (by omega) t fun s u F1 H1 cq q1 x1 => ?_
  have er1 := er.step x1.toExt
  refine gl B F1 H1 σ ρ _ _ er1 (by omega) q1 fun lo' F2 H2 cq q2 x2 => ?_
  refine gh B F2 H2 σ ρ _ _ (er1.step x2) (by omega) q2 fun hi' F3 H3 cq q3 x3 => ?_
  have sr := x1.sr.keep x1.fo er.refl.cp (x2.trans x3)
  have x := x1.toExt.trans (x2.trans x3)
  rcases q3 with ⟨ds, e1, q⟩ | ⟨ds, e1, q⟩ | ⟨z, e1, hz, q⟩
  · obtain ⟨a, xs, rfl, sq, r⟩ := asL_sq sr e1
    exact .inl ⟨a, xs, rfl, sq, fun p hp => k _ _ _ _ (by omega) q ((PRes.newL x.dm hp (r.cut _ _)).res x fun _ _ z => nomatch z)⟩
  · obtain ⟨a, xs, rfl, sq, r⟩ := asT_sq sr e1
    refine .inr (.inl ⟨a, xs, rfl, sq.t, fun ⟨w1, w2⟩ => ?_, fun _ p o nd hp => k _ _ _ _ (by omega) q ((PRes.newT x.dm nd hp (r.cut _ _)).res x fun _ _ z => nomatch z)⟩)
    rw [r.len] at w1 w2
    rw [cut_whole w1 w2] at q
    exact k _ _ F3 H3 (by omega) q ((PRes.same x.dm (.tup sq r)).res x fun _ _ z => nomatch z)
  · subst e1
    rw [str_of sr]
    exact .inr (.inr ⟨z, rfl, hz, k _ _ F3 H3 (by omega) q ((PRes.same x.dm (.str _)).res x fun _ _ z => nomatch z)⟩)
end

/-! ### lists of one's own -/
section
variable {X : Cx} {st : Stmt} {e : Expr} {t : TV} {i : Nat}
def vAppend (i : Nat) (t : TV) : TVS := fun E ρ => ∃ ds, ρ[i]? = some (.own ds) ∧ t ρ fun s => ∃ d, datasIn [s] = some [d] ∧ ds.length < 100000 ∧ E.nx (ρ.set i (.own (ds ++ [d])))
theorem vs_append {κ1 : Nat} (h : ∀ te, PE X e te → PS X st (tDrop (tBM X.K "list" rAppend (tVar i) (tCons te tNil)))) (he : VE X e t κ1) : VS X st (vAppend i t) κ1 := by
  obtain ⟨te, pe, g⟩ := he
  refine ⟨_, h te pe, fun B F H σ ρ E D er bq ⟨ds, e2, t⟩ k => ?_⟩
  obtain ⟨p, us, h1, h2, _, _⟩ := er.own e2
  refine ⟨.ref p, h1, .inl ⟨rfl, us, SqL.of h2⟩, ?_⟩
  refine g B F H σ ρ _ _ er (by omega) t fun s u F1 H1 cq ⟨d, e1, hz, q⟩ x => ?_
  obtain ⟨F2, ce, x2, r⟩ := data_all (us := [u]) (ss := [s]) x.toExt ⟨x.sr, x.fo, trivial⟩ e1
  have er2 := er.step x2
  obtain ⟨p', ws, h1', h2', nf, ra⟩ := er2.own e2
  rw [h1] at h1'
  injection h1' with h1'; injection h1' with h1'; injection h1' with h1'
  subst h1'
  refine ⟨p, ws, u, rfl, rfl, h2', ?_, k.nx F2 _ _ _ (by omega) (er2.write (c1 := .lst) e2 h1 h2' nf (ra.append r)) q⟩
  rw [ra.len]
  exact Nat.lt_of_lt_of_le hz (by decide)
/-- xs.extend(ys) -/
def vExtend (i : Nat) (t : TV) : TVS := fun E ρ => ∃ ds, ρ[i]? = some (.own ds) ∧ t ρ fun s => ∃ es, s.asW = some es ∧ ds.length + es.length ≤ 100000 ∧ E.nx (ρ.set i (.own (ds ++ es)))
theorem vs_extend {κ1 : Nat} (h : ∀ te, PE X e te → PS X st (tDrop (tBM X.K "list" rExtend (tVar i) (tCons te tNil)))) (he : VE X e t κ1) : VS X st (vExtend i t) κ1 := by
  obtain ⟨te, pe, g⟩ := he
  refine ⟨_, h te pe, fun B F H σ ρ E D er bq ⟨ds, e2, t⟩ k => ?_⟩
  obtain ⟨p, us, h1, h2, _, _⟩ := er.own e2
  refine ⟨.ref p, h1, .inl ⟨rfl, us, SqL.of h2⟩, ?_⟩
  refine g B F H σ ρ _ _ er (by omega) t fun s u F1 H1 cq ⟨es, e1, hz, q⟩ x => ?_
  have er2 := er.step x.toExt
  obtain ⟨p', ws, h1', h2', nf, ra⟩ := er2.own e2
  rw [h1] at h1'
  injection h1' with h1'; injection h1' with h1'; injection h1' with h1'
  subst h1'
  obtain ⟨b, zs, rfl, h3, r⟩ := asW_at x.sr e1
  refine ⟨p, b, ws, zs, rfl, rfl, h2', h3, ?_, k.nx F1 _ _ _ (by omega) (er2.write (c1 := .lst) e2 h1 h2' nf (ra.append r)) q⟩
  rw [ra.len, r.len]
  exact Nat.le_trans hz (by decide)
end

/-! ### the feed -/
section
variable {X : Cx} {st : Stmt} {e : Expr} {t : TV} {i : Nat}
def kCells : Str := "cells"
def kAt : Str := "at"
def kLeft : Str := "left"
def kCount : Str := "count"
theorem ER.cellAt {K : PySem.W.Frag} {B : Bas} {F : FS} {H : Hp} {σ : Hs} {ρ : Env} (er : ER K B F H σ ρ) {a : Addr} {ns : Cel} (h : ρ[i]? = some (.cell a ns)) : σ[i]? = some (some (.ref a)) ∧ CI F H a ns := by
  obtain ⟨u, h1, rfl, c⟩ := er.sl i _ h (fun z => nomatch z)
  exact ⟨h1, c⟩
/-- feed['cells'] -/
def vCells (i : Nat) : TV := fun ρ Q => ∃ (a : Addr) (ns : List Int), ρ[i]? = some (.cell a ⟨false, ns⟩) ∧ Q (.v (.list (ns.map .int)))
theorem ve_cells (h : PE X e (tDGet (tVar i) (tC (.str "cells")))) : VE X e (vCells i) 0 := by
  refine ⟨_, h, fun B F H σ ρ Q R er bq ⟨a, ns, e, q⟩ k => ?_⟩
  obtain ⟨h1, c⟩ := er.cellAt e
  obtain ⟨nf, c', j, l, n, e1, e2, e3, _⟩ := id c
  refine ⟨.ref a, h1, a, .ref c', rfl, ?_, k _ _ F H (by omega) q ⟨er.refl, .lst e2 e3 (RA.ints ns), trivial⟩⟩
  exact DGet.k (k := Sum.inr "cells") e1
/-- feed['at'], .. : some int -/
def vCellN (i : Nat) : TV := fun ρ Q => ∃ (a : Addr) (ns : List Int), ρ[i]? = some (.cell a ⟨false, ns⟩) ∧ ∀ n : Int, Q (.v (.int n))
theorem ve_cellN {key : Str} (h : PE X e (tDGet (tVar i) (tC (.str key)))) (hk : key = "at" ∨ key = "left" ∨ key = "count") : VE X e (vCellN i) 0 := by
  refine ⟨_, h, fun B F H σ ρ Q R er bq ⟨a, ns, e, q⟩ k => ?_⟩
  obtain ⟨h1, c⟩ := er.cellAt e
  obtain ⟨nf, c', j, l, n, e1, e2, e3, _⟩ := id c
  have fin : ∀ m : Int, DGet H a (.str key) (some (.int m)) → tDGet (tVar i) (tC (.str key)) σ H R := fun m g =>
    ⟨.ref a, h1, a, .int m, rfl, g, k _ _ F H (by omega) (q m) ⟨er.refl, .int m, trivial⟩⟩
  rcases hk with rfl | rfl | rfl
  · exact fin j (DGet.k (k := Sum.inr "at") e1)
  · exact fin l (DGet.k (k := Sum.inr "left") e1)
  · exact fin n (DGet.k (k := Sum.inr "count") e1)
/-- feed['at'] = e -/
def vCellSet (i : Nat) (t : TV) : TVS := fun E ρ => ∃ (a : Addr) (ns : List Int), ρ[i]? = some (.cell a ⟨false, ns⟩) ∧ t ρ fun s => isI s fun _ => E.nx ρ
theorem celO_ne {t : Bool} {c : Addr} {i l n : Int} : (∀ xs, celO t c i l n ≠ .tup xs) ∧ ∀ o u, celO t c i l n ≠ .frz o u := by
  cases t <;> exact ⟨(fun _ z => nomatch z), (fun _ _ z => nomatch z)⟩
theorem Ext.cellw {K : PySem.W.Frag} {B : Bas} {F : FS} {H : Hp} {σ : Hs} {ρ : Env} {a c : Addr} {ns : Cel} (er : ER K B F H σ ρ) (h : ρ[i]? = some (.cell a ns)) {j l n : Int} (e2 : F c) (e3 : H c = some (.lst (ns.ns.map V.int))) (m : Nat) (hb : ns.tap = true → 0 ≤ n ∧ n ≤ (F.ck + m : Nat)) :
    Ext ρ F H ⟨F.fr, F.ck + m⟩ (upd H a (celO ns.tap c j l n)) := by
  obtain ⟨_, nf, c', j', l', n', e1, _, _⟩ := er.cellAt h
  have ne : ∀ {b : Addr} {o : HO}, H b = some o → ((∃ xs, o = .tup xs) ∨ ∃ x u, o = .frz x u) → b ≠ a := fun {b o} q z w => by
    rw [w, e1] at q
    have q := Option.some.inj q
    rcases z with ⟨xs, z⟩ | ⟨x, u, z⟩
    · exact celO_ne.1 xs (q.trans z)
    · exact celO_ne.2 x u (q.trans z)
  have keep : ∀ {b : Addr} {o : HO}, H b = some o → b ≠ a → upd H a (celO ns.tap c j l n) b = some o := fun {b o} q w => by rw [upd_ne w]; exact q
  have nf2 : ∀ {b : Addr}, F b → b ≠ a := fun {b} f z => nf (by rw [← z]; exact f)
  refine ⟨⟨⟨fun _ f => f, fun b o f q => keep q (nf2 f), fun b xs q => keep q (ne q (.inl ⟨_, rfl⟩)), fun b o u q => keep q (ne q (.inr ⟨_, _, rfl⟩))⟩, fun b o q m => keep q (fun z => m ⟨i, ns, by rw [z]; exact h⟩), fun b q => ?_, fun _ f => .inl f, Nat.le_add_right _ _⟩,
    fun b f => ?_, fun k b ms q => ?_, er.refl.cp⟩
  · by_cases z : b = a
    · rw [z, upd_same]; exact fun z => nomatch z
    · rw [upd_ne z]; exact q
  · obtain ⟨xs, q, l⟩ := er.dm b f
    exact ⟨xs, keep q (nf2 f), l⟩
  · by_cases z : b = a
    · subst z
      have e := (er.cell q).uniq (er.cell h)
      subst e
      exact ⟨nf, c, j, l, n, upd_same, e2, keep e3 (nf2 e2), hb⟩
    · obtain ⟨nf', c2, j2, l2, n2, q1, q2, q3, q4⟩ := er.cell q
      exact ⟨nf', c2, j2, l2, n2, keep q1 z, q2, keep q3 (nf2 q2), fun w => ⟨(q4 w).1, Int.le_trans (q4 w).2 (Int.ofNat_le.mpr (Nat.le_add_right _ _))⟩⟩
theorem vs_cellSet {κ1 : Nat} {key : Str} (h : ∀ te, PE X e te → PS X st (sDPut (tVar i) (tC (.str key)) te)) (he : VE X e t κ1) (hk : key = "at" ∨ key = "left" ∨ key = "count") : VS X st (vCellSet i t) κ1 := by
  obtain ⟨te, pe, g⟩ := he
  refine ⟨_, h te pe, fun B F H σ ρ E D er bq ⟨a, ns, e, t⟩ k => ?_⟩
  refine g B F H σ ρ _ _ er (by omega) t fun s u F1 H1 cq ⟨m, e1, q⟩ x => ?_
  subst e1
  have er1 := er.step x.toExt
  rw [int_of x.sr]
  obtain ⟨h1, c⟩ := er1.cellAt e
  obtain ⟨nf, c', j, l, n, e1, e2, e3, _⟩ := id c
  have fin : ∀ j' l' n' : Int, DPut H1 a (.str key) (.int m) (upd H1 a (celO false c' j' l' n')) →
      tVar i σ H1 (fun x H2 => tC (.str key) σ H2 fun y H3 => ∃ a H4, x = .ref a ∧ DPut H3 a y (.int m) H4 ∧ D.nx σ H4) := fun j' l' n' d =>
    ⟨.ref a, h1, a, _, rfl, d, k.nx F1 _ σ ρ (by omega) (er1.step (Ext.cellw er1 e e2 e3 0 (fun z => nomatch z))) q⟩
  have hz : ([(Sum.inr "cells", V.ref c'), (Sum.inr "at", V.int j), (Sum.inr "left", V.int l), (Sum.inr "count", V.int n)] : List (Key × V)).length < sizeLine := Nat.lt_of_lt_of_le (by decide : 4 < 100000) (by decide)
  rcases hk with rfl | rfl | rfl
  · exact fin m l n (DPut.k (k := Sum.inr "at") e1 hz)
  · exact fin j m n (DPut.k (k := Sum.inr "left") e1 hz)
  · exact fin j l m (DPut.k (k := Sum.inr "count") e1 hz)
/-- {'cells': e, 'at': 0, 'left': 0, 'count': 0} -/
def vFeed (t : TV) : TV := fun ρ Q => t ρ fun s => ∃ ns : List Int, s = .own (ns.map .int) ∧ ∀ a, Q (.cell a ⟨false, ns⟩)
theorem ve_feed {κ1 : Nat} {f : Expr} (h : ∀ te, PE X e te → PE X f (tDisp [(tC (.str "cells"), te), (tC (.str "at"), tC (.int 0)), (tC (.str "left"), tC (.int 0)), (tC (.str "count"), tC (.int 0))])) (he : VE X e t κ1) : VE X f (vFeed t) κ1 := by
  obtain ⟨te, pe, g⟩ := he
  refine ⟨_, h te pe, fun B F H σ ρ Q R er bq t k p hp => ?_⟩
  have x0 : Ext ρ F H F (upd H p (.dK [])) := er.refl.pure (Stp.new hp) (er.dm.new hp)
  refine g B F _ σ ρ _ _ (er.step x0) (by omega) t fun s u F1 H1 cq ⟨ns, e1, q⟩ x => ?_
  subst e1
  obtain ⟨F2, ce, x2, _⟩ := x.hand (t := .v (.list (ns.map .int))) rfl
  have np : ¬ cellsOf ρ p := fun c => er.refl.cp p c hp
  have hp1 : H1 p = some (.dK []) := x.st.kp p _ upd_same np
  have nf2 : ¬ F2 p := fun z => by
    rcases x2.st.nw p z with w | w
    · obtain ⟨o, w, _⟩ := er.dm p w
      rw [hp] at w; cases w
    · rw [upd_same] at w; cases w
  have r2 : R1 X.K F2 H1 u (.list (ns.map .int)) := x2.sr
  cases r2 with
  | lst f hu r =>
    rename_i c xs
    have exs : xs = ns.map V.int := data_ints r
    subst exs
    have np2 : c ≠ p := fun z => nf2 (by rw [← z]; exact f)
    refine ⟨hp1, [(.inr "cells", .ref c), (.inr "at", .int 0), (.inr "left", .int 0), (.inr "count", .int 0)], rfl, (by show 4 ≤ 15; decide), ?_⟩
    have x3 := x0.trans x2.toExt
    have hk : ∀ {b : Addr} {o : HO} {o2 : HO}, H1 b = some o → (∀ kvs, o ≠ .dK kvs) → upd H1 p o2 b = some o := fun {b o o2} q z => by
      rw [upd_ne (fun w => by rw [w, hp1] at q; exact z _ (Option.some.inj q).symm)]; exact q
    refine k _ _ F2 _ (by omega) (q p) ⟨⟨x3.st.mut hp, fun a z => ?_, fun j b ms z => ?_, x3.cp⟩, ⟨rfl, nf2, c, 0, 0, 0, upd_same, f, ?_, fun z => nomatch z⟩, .inr hp⟩
    · obtain ⟨xs, w, l⟩ := x3.dm a z
      exact ⟨xs, by rw [upd_ne (fun q => nf2 (by rw [← q]; exact z))]; exact w, l⟩
    · obtain ⟨nf', c2, j2, l2, n2, q1, q2, q3, q4⟩ := x3.cl j b ms z
      have nb : b ≠ p := fun w => np ⟨j, ms, by rw [← w]; exact z⟩
      exact ⟨nf', c2, j2, l2, n2, by rw [upd_ne nb]; exact q1, q2, hk q3 (fun _ z => nomatch z), q4⟩
    · exact hk hu fun _ z => nomatch z
end
end VL
namespace VL
open PySem PySem.Spec PyProof.Rows L2 VG

theorem hu64 {k : Nat} {A : Around} (hr : Room k A) : A.units + 64 < cLine := hr.units
section
variable {K : PySem.W.Frag}
def fSub : FB := fun a b Q => match a, b with
  | .v (.int i), .v (.int j) => Q (.v (.int (i - j)))
  | .v (.bool x), .v (.int j) => Q (.v (.int ((if x = true then 1 else 0) - j)))
  | .v (.int j), .v (.bool x) => Q (.v (.int (j - if x = true then 1 else 0)))
  | _, _ => False
abbrev rSubA : R2 := r2or (rI0 fun i j => .int (i - j)) (r2or (rBI fun b j => (if b = true then 1 else 0) - j) (rIB fun j b => j - if b = true then 1 else 0))
theorem op_subA {X : Cx} : OpR X (binaryOp .Sub) rSubA := op_sub.or (op_subBI.or op_subIB)
theorem ops_sub : OpS K rSubA fSub := by
  intro F H u w a b Q R fo ra rb q k
  unfold fSub at q
  split at q
  · rw [int_of ra, int_of rb]
    exact .inl ⟨_, _, rfl, rfl, k _ _ F H q (fun _ _ z => nomatch z) (.same fo (.int _))⟩
  · rw [int_of rb]
    cases (show R1 K F H u (.bool _) from ra)
    exact .inr (.inl ⟨_, _, rfl, rfl, k _ _ F H q (fun _ _ z => nomatch z) (.same fo (.int _))⟩)
  · rw [int_of ra]
    cases (show R1 K F H w (.bool _) from rb)
    exact .inr (.inr ⟨_, _, rfl, rfl, k _ _ F H q (fun _ _ z => nomatch z) (.same fo (.int _))⟩)
  · exact q.elim
/-- one of both is small, or both are not too great -/
def CMulA (i j : Int) : Prop := CMul i j ∨ CMulW i j
abbrev rMulA : R2 := r2or (rI CMul fun i j => .int (i * j)) (rI CMulW fun i j => .int (i * j))
theorem op_mulA {X : Cx} : OpR X (binaryOp .Mult) rMulA := op_mul.or op_mulW
def fMul : FB := fII CMulA fun i j => .int (i * j)
theorem ops_mul : OpS K rMulA fMul := by
  intro F H u w a b Q R fo ra rb ⟨i, j, e1, e2, c, q⟩ k
  subst e1 e2
  have q2 := k _ _ F H q (fun _ _ z => nomatch z) (.same fo (.int _))
  rcases c with c | c
  · exact .inl ⟨i, j, int_of ra, int_of rb, c, q2⟩
  · exact .inr ⟨i, j, int_of ra, int_of rb, c, q2⟩
theorem mulL {i j : Int} (h1 : -18446744073709551616 < i) (h2 : i < 18446744073709551616) : CMulA i j := .inl (.inl ⟨h1, h2⟩)
theorem mulR {i j : Int} (h1 : -18446744073709551616 < j) (h2 : j < 18446744073709551616) : CMulA i j := .inl (.inr ⟨h1, h2⟩)
def fDiv : FB := fII CDivW fun i j => .int (i / j)
theorem ops_div : OpS K (rI CDivW fun i j => .int (i / j)) fDiv := ops_II (i1 _)
def fMod : FB := fII (fun _ j => 0 < j) fun i j => .int (i % j)
theorem ops_mod : OpS K (rI (fun _ j => 0 < j) fun i j => .int (i % j)) fMod := ops_II (i1 _)
def fPow : FB := fII CPow fun i j => .int (i ^ j.toNat)
theorem ops_pow : OpS K (rI CPow fun i j => .int (i ^ j.toNat)) fPow := ops_II (i1 _)
def fGcd : FC := fI2 fun a b => ((Nat.gcd a.natAbs b.natAbs : Nat) : Int)
def fAbs : FC := fI1 fun i => if i < 0 then -i else i
def fMin2 : FC := fI2 fun i j => if j < i then j else i
def fMax2 : FC := fI2 fun i j => if j > i then j else i
/-- <, <=, >, >= of two ints, of two texts -/
abbrev rStrCmp (p : List Nat → List Nat → Bool) : R2 := fun x y H Q => ∃ i j, x = .str i ∧ y = .str j ∧ Q (.bl (p i.cps.toList j.cps.toList)) H
def fCmp (p : Int → Int → Bool) (q : List Nat → List Nat → Bool) : FB := fun a b Q => match a, b with
  | .v (.int i), .v (.int j) => Q (.v (.bool (p i j)))
  | .v (.str x), .v (.str y) => Q (.v (.bool (q x.cps.toList y.cps.toList)))
  | _, _ => False
theorem ops_cmp {p : Int → Int → Bool} {q : List Nat → List Nat → Bool} : OpS K (r2or (rI0 fun i j => .bl (p i j)) (rStrCmp q)) (fCmp p q) := by
  intro F H u w a b Q R fo ra rb h k
  unfold fCmp at h
  split at h
  · rw [int_of ra, int_of rb]
    exact .inl ⟨_, _, rfl, rfl, k _ _ F H h (fun _ _ z => nomatch z) (.same fo (.bl _))⟩
  · rw [str_of ra, str_of rb]
    exact .inr ⟨_, _, rfl, rfl, k _ _ F H h (fun _ _ z => nomatch z) (.same fo (.bl _))⟩
  · exact h.elim
def fLt : FB := fCmp (fun i j => decide (i < j)) (fun x y => decide (x < y))
theorem op_ltA {X : Cx} : OpR X (compareOp .Lt) (r2or (rI0 fun i j => .bl (decide (i < j))) (rStrCmp fun x y => decide (x < y))) := op_lt.or op_lt_str
theorem ops_ltA : OpS K (r2or (rI0 fun i j => .bl (decide (i < j))) (rStrCmp fun x y => decide (x < y))) fLt := ops_cmp
def fLe : FB := fII (fun _ _ => True) fun i j => .bool (decide (i ≤ j))
theorem op_leA {X : Cx} : OpR X (compareOp .LtE) (rI0 fun i j => .bl (decide (i ≤ j))) := op_le
theorem ops_leA : OpS K (rI0 fun i j => .bl (decide (i ≤ j))) fLe := ops_II0 (b1 _)
def fGt : FB := fII (fun _ _ => True) fun i j => .bool (decide (j < i))
theorem op_gtA {X : Cx} : OpR X (compareOp .Gt) (rI0 fun i j => .bl (decide (j < i))) := op_gt
theorem ops_gtA : OpS K (rI0 fun i j => .bl (decide (j < i))) fGt := ops_II0 (b1 _)
def fGe : FB := fII (fun _ _ => True) fun i j => .bool (decide (j ≤ i))
theorem op_geA {X : Cx} : OpR X (compareOp .GtE) (rI0 fun i j => .bl (decide (j ≤ i))) := op_ge
theorem ops_geA : OpS K (rI0 fun i j => .bl (decide (j ≤ i))) fGe := ops_II0 (b1 _)
end
def vNotT (t : TVb) : TVb := fun ρ Q => t ρ fun b => Q (!b)
def vSome (t : TV) : TVo := fun ρ Q => t ρ fun s => isI s fun i => Q (some i)
def vSeqI (t : TV) : TVl := fun ρ Q => t ρ fun s => ∃ ds, s.items = some ds ∧ Q ds
def vRetN : TVS := fun E _ => E.rt (.v .none)
section
variable {X : Cx} {e : Expr} {t : TV}
def vNeg (t : TV) : TV := fun ρ Q => t ρ fun s => isI s fun i => Q (.v (.int (-i)))
theorem ve_neg {κ1 : Nat} {pos : Pos} (h : VE X e t κ1) : VE X (.UnaryOp .USub e pos) (vNeg t) κ1 := by
  obtain ⟨te, pe, g⟩ := h
  refine ⟨_, pe_un un_neg pe, fun B F H σ ρ Q R er bq t k => ?_⟩
  refine g B F H σ ρ _ _ er (by omega) t fun s u F' H' cq ⟨i, e, q⟩ x => ?_
  subst e
  exact ⟨i, int_of x.sr, k _ _ F' H' (by omega) q ⟨x.toExt, .int _, trivial⟩⟩
/-- keywords' values -/
def VK (X : Cx) (ks : List Keyword) (t : TVs) (κ : Nat) : Prop := ∃ ta, PK X ks ta ∧
  ∀ B F H σ ρ (Q : List SV → Prop) (R : List V → Hp → Prop), ER X.K B F H σ ρ → F.ck + κ ≤ LIM → t ρ Q →
    (∀ ss us (F' : FS) H', F'.ck ≤ F.ck + κ → Q ss → Ext ρ F H F' H' → AllR X.K ρ F' H' H us ss → R us H') → ta σ H R
theorem vk_nil : VK X [] vNil 0 := ⟨_, pk_nil, fun B F H σ ρ Q R er bq t k => k [] [] F H (by omega) t er.refl trivial⟩
theorem AllR.back {K : PySem.W.Frag} {ρ : Env} {F F1 F2 : FS} {H H1 H2 : Hp} (x : Ext ρ F H F1 H1) : ∀ {us : List V} {ss : List SV}, AllR K ρ F2 H2 H1 us ss → AllR K ρ F2 H2 H us ss
  | [], [], _ => trivial
  | _ :: _, _ :: _, ⟨a, b, c⟩ => ⟨a, b.back x, AllR.back x c⟩
  | [], _ :: _, h => h.elim
  | _ :: _, [], h => h.elim
theorem vk_cons {κ1 κ2 : Nat} {nm : Option Str} {kpos : Pos} {ks : List Keyword} {r : TVs} (h : VE X e t κ1) (hr : VK X ks r κ2) : VK X (⟨nm, e, kpos⟩ :: ks) (vCons t r) (κ1 + κ2) := by
  obtain ⟨te, pe, g⟩ := h
  obtain ⟨ta, pa, ga⟩ := hr
  refine ⟨_, pk_cons pe pa, fun B F H σ ρ Q R er bq t k => ?_⟩
  refine g B F H σ ρ _ _ er (by omega) t fun s u F1 H1 cq q1 r1 => ?_
  refine ga B F1 H1 σ ρ _ _ (er.step r1.toExt) (by omega) q1 fun ss us F2 H2 cq q2 x2 a2 => ?_
  exact k (s :: ss) (u :: us) F2 H2 (by omega) q2 (r1.toExt.trans x2) ⟨r1.sr.keep r1.fo er.refl.cp x2, r1.fo, a2.back r1.toExt⟩
theorem AllR.append {K : PySem.W.Frag} {ρ : Env} {F : FS} {H H1 : Hp} : ∀ {us : List V} {ss : List SV} {vs : List V} {ts : List SV}, AllR K ρ F H H1 us ss → AllR K ρ F H H1 vs ts → AllR K ρ F H H1 (us ++ vs) (ss ++ ts)
  | [], [], _, _, _, h => h
  | _ :: _, _ :: _, _, _, ⟨a, b, c⟩, h => ⟨a, b, AllR.append c h⟩
  | [], _ :: _, _, _, h, _ => h.elim
  | _ :: _, [], _, _, h, _ => h.elim
/-- the places js of a list -/
def sel (js : List Nat) {α : Type} (l : List α) : List α := js.filterMap fun j => l[j]?
theorem sel_cons {j : Nat} {js : List Nat} {α : Type} {l : List α} {x : α} (h : l[j]? = some x) : sel (j :: js) l = x :: sel js l := by
  unfold sel
  rw [List.filterMap_cons, h]
theorem AllR.at {K : PySem.W.Frag} {ρ : Env} {F : FS} {H H1 : Hp} : ∀ {us : List V} {ss : List SV} (_ : AllR K ρ F H H1 us ss) (j : Nat), (us[j]? = none ∧ ss[j]? = none) ∨ ∃ u s, us[j]? = some u ∧ ss[j]? = some s ∧ SlotR K F H u s ∧ Fo ρ H1 u s
  | [], [], _, _ => .inl ⟨rfl, rfl⟩
  | u :: _, s :: _, ⟨a, b, _⟩, 0 => .inr ⟨u, s, rfl, rfl, a, b⟩
  | _ :: _, _ :: _, ⟨_, _, c⟩, j + 1 => by
    have := AllR.at c j
    simpa using this
  | [], _ :: _, h, _ => h.elim
  | _ :: _, [], h, _ => h.elim
theorem AllR.sel {K : PySem.W.Frag} {ρ : Env} {F : FS} {H H1 : Hp} {us : List V} {ss : List SV} (a : AllR K ρ F H H1 us ss) : ∀ js : List Nat, AllR K ρ F H H1 (VL.sel js us) (VL.sel js ss)
  | [] => trivial
  | j :: js => by
    have ih := AllR.sel a js
    unfold VL.sel at ih ⊢
    rw [List.filterMap_cons, List.filterMap_cons]
    rcases a.at j with ⟨h1, h2⟩ | ⟨u, s, h1, h2, h3, h4⟩
    · rw [h1, h2]; exact ih
    · rw [h1, h2]; exact ⟨h3, h4, ih⟩
theorem vals_at : ∀ {vs : List V} {us : List Value} (_ : Vals vs us) (j : Nat), (vs[j]? = none ∧ us[j]? = none) ∨ ∃ v u, vs[j]? = some v ∧ us[j]? = some u ∧ RelV v u
  | _, _, .nil, _ => .inl ⟨rfl, rfl⟩
  | _, _, .cons a _, 0 => .inr ⟨_, _, rfl, rfl, a⟩
  | _, _, .cons _ b, j + 1 => by
    have := vals_at b j
    simpa using this
theorem vals_sel {vs : List V} {us : List Value} (a : Vals vs us) : ∀ js : List Nat, Vals (sel js vs) (sel js us)
  | [] => .nil
  | j :: js => by
    have ih := vals_sel a js
    unfold sel at ih ⊢
    rw [List.filterMap_cons, List.filterMap_cons]
    rcases vals_at a j with ⟨h1, h2⟩ | ⟨v, u, h1, h2, h3⟩
    · rw [h1, h2]; exact ih
    · rw [h1, h2]; exact .cons h3 ih
/-- f(e, .., k = v, ..), the keywords in the order of the parameters behind -/
def vCallK (n1 n2 n : Nat) (tf : TF) (t tk : TVs) : TV := fun ρ Q => t ρ fun ss => tk ρ fun zs => TapsOld ρ (ss ++ zs) ∧ ∃ ts, hands (ss ++ zs) = some ts ∧ ss.length = n1 ∧ zs.length = n2 ∧ ts.length = n ∧ tf ts Q
theorem ve_callK {κ1 κ2 κ : Nat} {n1 n2 n : Nat} {tf : TF} {es : List Expr} {ks : List Keyword} {t tk : TVs} (h : ∀ ta tk', PA X es ta → PK X ks tk' → PE X e (tCallN n1 n2 (spOf X.K n κ tf) (fun a b => a ++ b) E0 ta tk')) (ha : VA X es t κ1) (hk : VK X ks tk κ2) : VE X e (vCallK n1 n2 n tf t tk) (κ1 + κ2 + κ) := by
  obtain ⟨ta, pa, g⟩ := ha
  obtain ⟨tke, pk, gk⟩ := hk
  refine ⟨_, h ta tke pa pk, fun B F H σ ρ Q R er bq t k => ?_⟩
  refine g B F H σ ρ _ _ er (by omega) t fun ss us F1 H1 cq q1 x1 a1 => ?_
  refine gk B F1 H1 σ ρ _ _ (er.step x1) (by omega) q1 fun zs vs F2 H2 cq ⟨ol, ts, e, l1, l2, hn, q⟩ x2 a2 => ?_
  have al := (a1.keep er.refl.cp x2).append (a2.back x1)
  have := call_go (dss := []) (vs := []) (x1.trans x2) al ol e (fun _ _ => .nil) (by simpa using hn) (κ := κ) (by omega) (tf := tf) (Q := Q) (R := R) (by simpa using q) fun s u F' H' c => k s u F' H' (by omega)
  rw [List.append_nil] at this
  exact ⟨a1.len.trans l1, a2.len.trans l2, this⟩
/-- the same, the arguments by their places js -/
def vCallP (n1 n2 n : Nat) (js : List Nat) (tf : TF) (t tk : TVs) : TV := fun ρ Q => t ρ fun ss => tk ρ fun zs => TapsOld ρ (sel js (ss ++ zs)) ∧ ∃ ts, hands (sel js (ss ++ zs)) = some ts ∧ ss.length = n1 ∧ zs.length = n2 ∧ ts.length = n ∧ tf ts Q
theorem ve_callP {κ1 κ2 κ : Nat} {n1 n2 n : Nat} {js : List Nat} {tf : TF} {es : List Expr} {ks : List Keyword} {t tk : TVs} (h : ∀ ta tk', PA X es ta → PK X ks tk' → PE X e (tCallN n1 n2 (spOf X.K n κ tf) (fun a b => sel js (a ++ b)) E0 ta tk')) (ha : VA X es t κ1) (hk : VK X ks tk κ2) : VE X e (vCallP n1 n2 n js tf t tk) (κ1 + κ2 + κ) := by
  obtain ⟨ta, pa, g⟩ := ha
  obtain ⟨tke, pk, gk⟩ := hk
  refine ⟨_, h ta tke pa pk, fun B F H σ ρ Q R er bq t k => ?_⟩
  refine g B F H σ ρ _ _ er (by omega) t fun ss us F1 H1 cq q1 x1 a1 => ?_
  refine gk B F1 H1 σ ρ _ _ (er.step x1) (by omega) q1 fun zs vs F2 H2 cq ⟨ol, ts, e, l1, l2, hn, q⟩ x2 a2 => ?_
  have al := (a1.keep er.refl.cp x2).append (a2.back x1)
  have := call_go (dss := []) (vs := []) (x1.trans x2) (al.sel js) ol e (fun _ _ => .nil) (by simpa using hn) (κ := κ) (by omega) (tf := tf) (Q := Q) (R := R) (by simpa using q) fun s u F' H' c => k s u F' H' (by omega)
  rw [List.append_nil] at this
  exact ⟨a1.len.trans l1, a2.len.trans l2, this⟩
/-- f(k = v, ..) -/
theorem ve_callP0 {κ1 κ : Nat} {n2 n : Nat} {js : List Nat} {tf : TF} {ks : List Keyword} {tk : TVs} (h : ∀ tk', PK X ks tk' → PE X e (tCallN 0 n2 (spOf X.K n κ tf) (fun a b => sel js (a ++ b)) E0 tNil tk')) (hk : VK X ks tk κ1) : VE X e (vCallP 0 n2 n js tf vNil tk) (κ1 + κ) := by
  obtain ⟨tke, pk, gk⟩ := hk
  refine ⟨_, h tke pk, fun B F H σ ρ Q R er bq t k => ?_⟩
  refine gk B F H σ ρ _ _ er (by omega) t fun zs vs F2 H2 cq ⟨ol, ts, e, l1, l2, hn, q⟩ x2 a2 => ?_
  have := call_go (us := sel js ([] ++ vs)) (ss := sel js ([] ++ zs)) (dss := []) (vs := []) x2 (a2.sel js) ol e (fun _ _ => .nil) (by simpa using hn) (κ := κ) (by omega) (tf := tf) (Q := Q) (R := R) (by simpa using q) fun s u F' H' c => k s u F' H' (by omega)
  rw [List.append_nil] at this
  exact ⟨rfl, a2.len.trans l2, this⟩
end
section
variable {P : Program} {w : World} {K : PySem.W.Frag} {mg : Str → Option Value} {base : Heap} {x qual : Str} {pr : Arguments} {body : List Stmt} {sc : Scope} {dvs : List V} {kws : List (Str × V)} {f : Addr} {fd : FuncData} {ps : List Str}
theorem kbn_all {n : Nat} {ks : List Str} (F : FunD K x qual pr body sc [] kws f fd)
    (h : ∀ (kV doc pm : Value) (an : Option Addr) (cdv ct : Value) (us ws : List Value), us.length = n → ws.length = ks.length → bindArgs (PySem.W.fnOf x qual pr body sc .none kV doc pm an cdv ct) ⟨us, ks.zip ws⟩ = pure (ps.zip (us ++ ws))) :
    KBn K fd ps n ks (fun us ws => us ++ ws) (fun us ws => us ++ ws) := by
  obtain ⟨oc, od, dV, kV, doc, pm, an, cdv, ct, osl, rfl, lk, hcd, hD, hK⟩ := F.ex
  rcases hD with ⟨_, rfl⟩ | ⟨z, _⟩
  · exact ⟨fun s us ws _ h1 h2 => .of_eq (h kV doc pm an cdv ct us ws h1 h2), fun a b => a.append b⟩
  · exact absurd rfl z
theorem kbn_sel {n : Nat} {ks : List Str} (js : List Nat) (F : FunD K x qual pr body sc [] kws f fd)
    (h : ∀ (kV doc pm : Value) (an : Option Addr) (cdv ct : Value) (us ws : List Value), us.length = n → ws.length = ks.length → bindArgs (PySem.W.fnOf x qual pr body sc .none kV doc pm an cdv ct) ⟨us, ks.zip ws⟩ = pure (ps.zip (sel js (us ++ ws)))) :
    KBn K fd ps n ks (fun us ws => sel js (us ++ ws)) (fun us ws => sel js (us ++ ws)) := by
  obtain ⟨oc, od, dV, kV, doc, pm, an, cdv, ct, osl, rfl, lk, hcd, hD, hK⟩ := F.ex
  rcases hD with ⟨_, rfl⟩ | ⟨z, _⟩
  · exact ⟨fun s us ws _ h1 h2 => .of_eq (h kV doc pm an cdv ct us ws h1 h2), fun a b => vals_sel (a.append b) js⟩
  · exact absurd rfl z
theorem def_bodyD {k κ : Nat} {N : List Str} {t : TVS} (F : FunD K x qual pr body sc dvs kws f fd) (S : FnScope N ps sc)
    (hb : ∀ (f : Addr) (cdv : Value) (A : Around) (outer : List PySem.Env) (s : Shared) (H : Hp) (E : XK), Room k (A.deeper (envOfC qual sc s.heap.objs.size f cdv)) → Still A → ∃ κ', κ' ≤ κ ∧ VSs (cxOf CX0 P w K mg base N qual sc f cdv A outer s H E).nox body t κ') :
    GOk P w K mg base CX0 (k + 1) f fd ps (spOf K ps.length κ (vDef N.length t)) := by
  obtain ⟨oc, od, dV, kV, doc, pm, an, cdv, ct, osl, rfl, lk, hcd, hD, hK⟩ := F.ex
  exact def_body lk hcd S fun A outer s H E hr gd => hb f cdv A outer s H E hr gd
end
/-- a, b = [..], e -/
def vParO (i j : Nat) (t : TVs) : TVS := fun E ρ => t ρ fun ss => ∃ ds b, ss = [.own ds, .v b] ∧ E.nx ((ρ.set i (.own ds)).set j (.v b))
end VL
namespace VL
open PySem PySem.Spec PyProof.Rows L2 VG

section
variable {C : Int → Int → Prop} {g : Int → Int → PyData} {i j : Int} {Q : SV → Prop} {d e : PyData} {ds es : List PyData} {ρ : Env} {s : SV} {ss : List SV} {P : Bool → Prop}
@[simp] theorem ex_eq {α : Sort _} {a : α} {P : α → Prop} : (∃ x, a = x ∧ P x) ↔ P a := ⟨fun ⟨_, e, h⟩ => e ▸ h, fun h => ⟨a, rfl, h⟩⟩
@[simp] theorem m_ii : fII C g (.v (.int i)) (.v (.int j)) Q = (C i j ∧ Q (.v (g i j))) := by simp [fII]
@[simp] theorem m_bin {f : FB} {ta tb : TV} : vBin f ta tb ρ Q = ta ρ fun a => tb ρ fun b => f a b Q := (Eq.refl _).trans (Eq.refl _)
@[simp] theorem m_c : vC d ρ Q = Q (.v d) := (Eq.refl _).trans (Eq.refl _)
@[simp] theorem m_cb {f : FC} {t : TVs} : vCB f t ρ Q = t ρ fun ss => f ss Q := (Eq.refl _).trans (Eq.refl _)
@[simp] theorem m_nil {R : List SV → Prop} : vNil ρ R = R [] := (Eq.refl _).trans (Eq.refl _)
@[simp] theorem m_cons {t : TV} {r : TVs} {R : List SV → Prop} : vCons t r ρ R = t ρ fun s => r ρ fun ss => R (s :: ss) := (Eq.refl _).trans (Eq.refl _)
@[simp] theorem m_i1 {f : Int → Int} : fI1 f [.v (.int i)] Q = Q (.v (.int (f i))) := by simp [fI1]
@[simp] theorem m_i2 {f : Int → Int → Int} : fI2 f [.v (.int i), .v (.int j)] Q = Q (.v (.int (f i j))) := by simp [fI2, and_assoc]
@[simp] theorem m_test {t : TV} : vTest t ρ P = t ρ fun s => ∃ b, s = .v (.bool b) ∧ P b := (Eq.refl _).trans (Eq.refl _)
@[simp] theorem m_isB {b : Bool} : isB (.v (.bool b)) P = P b := by simp [isB]
@[simp] theorem m_isI {R : Int → Prop} : isI (.v (.int i)) R = R i := by simp [isI]
@[simp] theorem m_if {c : TVb} {t u : TV} : vIf c t u ρ Q = c ρ fun b => if b = true then t ρ Q else u ρ Q := (Eq.refl _).trans (Eq.refl _)
@[simp] theorem m_and {t u : TVb} : vAnd t u ρ P = t ρ fun b => if b = true then u ρ P else P false := (Eq.refl _).trans (Eq.refl _)
@[simp] theorem m_or {t u : TVb} : vOr t u ρ P = t ρ fun b => if b = true then P true else u ρ P := (Eq.refl _).trans (Eq.refl _)
@[simp] theorem m_notT {t : TVb} : vNotT t ρ P = t ρ fun b => P (!b) := (Eq.refl _).trans (Eq.refl _)
@[simp] theorem m_andV {t u : TV} : vAndV t u ρ Q = t ρ fun s => isB s fun b => if b = true then u ρ Q else Q (.v (.bool false)) := (Eq.refl _).trans (Eq.refl _)
@[simp] theorem m_orV {t u : TV} : vOrV t u ρ Q = t ρ fun s => isB s fun b => if b = true then Q (.v (.bool true)) else u ρ Q := (Eq.refl _).trans (Eq.refl _)
@[simp] theorem m_notV {t : TV} : vNotV t ρ Q = t ρ fun s => isB s fun b => Q (.v (.bool (!b))) := (Eq.refl _).trans (Eq.refl _)
@[simp] theorem m_neg {t : TV} : vNeg t ρ Q = t ρ fun s => isI s fun i => Q (.v (.int (-i))) := (Eq.refl _).trans (Eq.refl _)
@[simp] theorem m_tup {t : TVs} : vTup t ρ Q = t ρ fun ss => ∃ ds, datasIn ss = some ds ∧ ds.length ≤ 100000 ∧ Q (.v (.tuple ds)) := (Eq.refl _).trans (Eq.refl _)
@[simp] theorem m_lst {t : TVs} : vLst t ρ Q = t ρ fun ss => ∃ ds, datasIn ss = some ds ∧ ds.length ≤ 100000 ∧ Q (.own ds) := (Eq.refl _).trans (Eq.refl _)
@[simp] theorem hand_v : SV.hand (.v d) = some (.v d) := (Eq.refl _).trans (Eq.refl _)
@[simp] theorem hand_own : SV.hand (.own ds) = some (.v (.list ds)) := (Eq.refl _).trans (Eq.refl _)
@[simp] theorem hand_cell {a : Addr} {ns : Cel} : SV.hand (.cell a ns) = some (.cell a ns) := (Eq.refl _).trans (Eq.refl _)
@[simp] theorem hand_scr {ns : List Int} : SV.hand (.scr ns) = some (.scr ns) := (Eq.refl _).trans (Eq.refl _)
@[simp] theorem lend_v : SV.lend (.v d) = .v d := (Eq.refl _).trans (Eq.refl _)
theorem lend_ow {c : CT} : SV.lend (.ow c ds) = .bw c ds := (Eq.refl _).trans (Eq.refl _)
@[simp] theorem lend_own : SV.lend (.own ds) = .brw ds := (Eq.refl _).trans (Eq.refl _)
@[simp] theorem lend_cell {a : Addr} {ns : Cel} : SV.lend (.cell a ns) = .cell a ns := (Eq.refl _).trans (Eq.refl _)
@[simp] theorem lend_scr {ns : List Int} : SV.lend (.scr ns) = .scr ns := (Eq.refl _).trans (Eq.refl _)
@[simp] theorem hands_nil : hands [] = some [] := (Eq.refl _).trans (Eq.refl _)
@[simp] theorem hands_v : hands (.v d :: ss) = (hands ss).map (SV.v d :: ·) := by
  show (match SV.hand (.v d), hands ss with | some t, some ts => some (t :: ts) | _, _ => none) = _
  rcases hands ss <;> rfl
@[simp] theorem hands_own : hands (.own ds :: ss) = (hands ss).map (SV.v (.list ds) :: ·) := by
  show (match SV.hand (.own ds), hands ss with | some t, some ts => some (t :: ts) | _, _ => none) = _
  rcases hands ss <;> rfl
@[simp] theorem hands_cell {a : Addr} {ns : Cel} : hands (.cell a ns :: ss) = (hands ss).map (SV.cell a ns :: ·) := by
  show (match SV.hand (.cell a ns), hands ss with | some t, some ts => some (t :: ts) | _, _ => none) = _
  rcases hands ss <;> rfl
@[simp] theorem hands_scr {ns : List Int} : hands (.scr ns :: ss) = (hands ss).map (SV.scr ns :: ·) := by
  show (match SV.hand (.scr ns), hands ss with | some t, some ts => some (t :: ts) | _, _ => none) = _
  rcases hands ss <;> rfl
@[simp] theorem datasIn_nil : datasIn [] = some [] := (Eq.refl _).trans (Eq.refl _)
@[simp] theorem datasIn_v : datasIn (.v d :: ss) = (datasIn ss).map (d :: ·) := by
  unfold datasIn
  rw [hands_v]
  rcases hands ss with _ | ts
  · rfl
  · rfl
@[simp] theorem datasIn_own : datasIn (.own ds :: ss) = (datasIn ss).map (PyData.list ds :: ·) := by
  unfold datasIn
  rw [hands_own]
  rcases hands ss with _ | ts
  · rfl
  · rfl
@[simp] theorem m_fAbs : fAbs [.v (.int i)] Q = Q (.v (.int (if i < 0 then -i else i))) := m_i1
@[simp] theorem m_fMin : fMin2 [.v (.int i), .v (.int j)] Q = Q (.v (.int (if j < i then j else i))) := m_i2
@[simp] theorem m_fMax : fMax2 [.v (.int i), .v (.int j)] Q = Q (.v (.int (if j > i then j else i))) := m_i2
@[simp] theorem m_fGcd : fGcd [.v (.int i), .v (.int j)] Q = Q (.v (.int ((Nat.gcd i.natAbs j.natAbs : Nat) : Int))) := m_i2
@[simp] theorem m_fSub : fSub (.v (.int i)) (.v (.int j)) Q = Q (.v (.int (i - j))) := by simp [fSub]
@[simp] theorem m_fMul : fMul (.v (.int i)) (.v (.int j)) Q = (CMulA i j ∧ Q (.v (.int (i * j)))) := m_ii
@[simp] theorem m_fDiv : fDiv (.v (.int i)) (.v (.int j)) Q = (CDivW i j ∧ Q (.v (.int (i / j)))) := m_ii
@[simp] theorem m_fMod : fMod (.v (.int i)) (.v (.int j)) Q = (0 < j ∧ Q (.v (.int (i % j)))) := m_ii
@[simp] theorem m_fPow : fPow (.v (.int i)) (.v (.int j)) Q = (CPow i j ∧ Q (.v (.int (i ^ j.toNat)))) := m_ii
@[simp] theorem m_fAdd : fAdd (.v (.int i)) (.v (.int j)) Q = Q (.v (.int (i + j))) := (Eq.refl _).trans (Eq.refl _)
@[simp] theorem m_fLt : fLt (.v (.int i)) (.v (.int j)) Q = Q (.v (.bool (decide (i < j)))) := (Eq.refl _).trans (Eq.refl _)
@[simp] theorem m_fLe : fLe (.v (.int i)) (.v (.int j)) Q = Q (.v (.bool (decide (i ≤ j)))) := by simp [fLe]
@[simp] theorem m_fGt : fGt (.v (.int i)) (.v (.int j)) Q = Q (.v (.bool (decide (j < i)))) := by simp [fGt]
@[simp] theorem m_fGe : fGe (.v (.int i)) (.v (.int j)) Q = Q (.v (.bool (decide (j ≤ i)))) := by simp [fGe]
@[simp] theorem m_ixT : fIx (.v (.tuple ds)) (.v (.int i)) Q = ∃ d, atI ds i = some d ∧ Q (.v d) := by
  simp [fIx, SV.asQ, SV.asL, SV.asT]
@[simp] theorem m_ixL : fIx (.v (.list ds)) (.v (.int i)) Q = ∃ d, atI ds i = some d ∧ Q (.v d) := by
  simp [fIx, SV.asQ, SV.asL, SV.asT]
@[simp] theorem m_ixO : fIx (.own ds) (.v (.int i)) Q = ∃ d, atI ds i = some d ∧ Q (.v d) := by
  simp [fIx, SV.asQ, SV.asL, SV.asT]
@[simp] theorem m_ixB : fIx (.brw ds) (.v (.int i)) Q = ∃ d, atI ds i = some d ∧ Q (.v d) := by
  simp [fIx, SV.asQ, SV.asL, SV.asT]
@[simp] theorem m_lenL : fLen [.v (.list ds)] Q = Q (.v (.int ds.length)) := by simp [fLen, SV.asQ, SV.asL, SV.asT]
@[simp] theorem m_lenT : fLen [.v (.tuple ds)] Q = Q (.v (.int ds.length)) := by simp [fLen, SV.asQ, SV.asL, SV.asT]
@[simp] theorem m_lenO : fLen [.own ds] Q = Q (.v (.int ds.length)) := by simp [fLen, SV.asQ, SV.asL, SV.asT]
@[simp] theorem m_lenB : fLen [.brw ds] Q = Q (.v (.int ds.length)) := by simp [fLen, SV.asQ, SV.asL, SV.asT]
@[simp] theorem m_tupB : fTuple [.brw ds] Q = Q (.v (.tuple ds)) := by simp [fTuple, SV.asQ, SV.asL, SV.asT]
@[simp] theorem m_tupO : fTuple [.own ds] Q = Q (.v (.tuple ds)) := by simp [fTuple, SV.asQ, SV.asL, SV.asT]
@[simp] theorem m_tupL : fTuple [.v (.list ds)] Q = Q (.v (.tuple ds)) := by simp [fTuple, SV.asQ, SV.asL, SV.asT]
@[simp] theorem m_tupT : fTuple [.v (.tuple ds)] Q = Q (.v (.tuple ds)) := by simp [fTuple, SV.asQ, SV.asL, SV.asT]
@[simp] theorem m_lstO : fList [.own ds] Q = Q (.own ds) := by simp [fList, SV.asQ, SV.asL, SV.asT]
@[simp] theorem m_lstT : fList [.v (.tuple ds)] Q = Q (.own ds) := by simp [fList, SV.asQ, SV.asL, SV.asT]
@[simp] theorem m_lstL : fList [.v (.list ds)] Q = Q (.own ds) := by simp [fList, SV.asQ, SV.asL, SV.asT]
@[simp] theorem m_repr : fRepr [.v d] Q = (Shw d ∧ Q (.v (.str d.shown))) := by simp [fRepr, SV.asD]
@[simp] theorem m_reprO : fRepr [.own ds] Q = (Shw (.list ds) ∧ Q (.v (.str (PyData.list ds).shown))) := by simp [fRepr, SV.asD]
@[simp] theorem m_reprB : fRepr [.brw ds] Q = (Shw (.list ds) ∧ Q (.v (.str (PyData.list ds).shown))) := by simp [fRepr, SV.asD]
@[simp] theorem m_eq {neg : Bool} {t : SV} (h1 : s.asD = some d) (h2 : t.asD = some e) : fEq neg s t Q = eqD d e fun c => Q (.v (.bool (if neg then !c else c))) := by simp [fEq, h1, h2]
@[simp] theorem m_eqS {neg : Bool} {x y : Str} : fEq neg (.v (.str x)) (.v (.str y)) Q = Q (.v (.bool (if neg then !(x == y) else x == y))) := by simp [fEq, SV.asD, eqD]
@[simp] theorem m_eqI {neg : Bool} : fEq neg (.v (.int i)) (.v (.int j)) Q = Q (.v (.bool (if neg then !(i == j) else i == j))) := by simp [fEq, SV.asD, eqD]
@[simp] theorem m_eqB {neg : Bool} {x y : Bool} : fEq neg (.v (.bool x)) (.v (.bool y)) Q = Q (.v (.bool (if neg then !(x == y) else x == y))) := by simp [fEq, SV.asD, eqD]
end
section
variable {E : VEnds} {ρ : Env} {Q : SV → Prop} {P : Bool → Prop} {s : SV} {d : PyData} {ds : List PyData} {i j n : Nat} {t u : TVS} {te : TV} {c : TVb} {ts : TVs} {x : Bool}
theorem b_ex {c : Bool} : (∃ b, SV.v (.bool c) = .v (.bool b) ∧ P b) ↔ P c :=
  ⟨fun ⟨b, e, h⟩ => by injection e with e; injection e with e; rw [e]; exact h, fun h => ⟨c, rfl, h⟩⟩
theorem s_seq : vSeq t u E ρ = t { E with nx := u E } ρ := (Eq.refl _).trans (Eq.refl _)
theorem s_next : vNext E ρ = E.nx ρ := (Eq.refl _).trans (Eq.refl _)
theorem s_asg : vAsg i te E ρ = te ρ fun s => ∃ z, s.hand = some z ∧ E.nx (ρ.set i z) := (Eq.refl _).trans (Eq.refl _)
theorem some_ex {α : Type} {a : α} {P : α → Prop} : (∃ z, some a = some z ∧ P z) ↔ P a := ⟨fun ⟨z, e, h⟩ => by injection e with e; rw [e]; exact h, fun h => ⟨a, rfl, h⟩⟩
theorem s_asgO : vAsgO i te E ρ = te ρ fun s => match s with | .ow c ds => E.nx (ρ.set i (.ow c ds)) | _ => False := (Eq.refl _).trans (Eq.refl _)
theorem s_ret : vRet te E ρ = te ρ fun s => ∃ z, s.hand = some z ∧ E.rt z := (Eq.refl _).trans (Eq.refl _)
theorem s_retN : vRetN E ρ = E.rt (.v .none) := (Eq.refl _).trans (Eq.refl _)
theorem s_if : vIfS c t u E ρ = c ρ fun b => if b = true then t E ρ else u E ρ := (Eq.refl _).trans (Eq.refl _)
theorem s_drop : vDrop te E ρ = te ρ fun _ => E.nx ρ := (Eq.refl _).trans (Eq.refl _)
theorem s_frz : vFrz i t E ρ = ∃ c ds, ρ[i]? = some (.ow c ds) ∧ t E (ρ.set i (c.fro ds)) := (Eq.refl _).trans (Eq.refl _)
theorem fro_lst : CT.fro .lst ds = .v (.list ds) := (Eq.refl _).trans (Eq.refl _)
theorem fro_K {ks : List L2.Key} : CT.fro (.K ks) ds = .v (.dict ((ks.zip ds).map fun kv => (kD kv.1, kv.2))) := (Eq.refl _).trans (Eq.refl _)
theorem fro_T {ks : List (List L2.Key)} : CT.fro (.T ks) ds = .fz ks ds := (Eq.refl _).trans (Eq.refl _)
theorem s_app : vAppend i te E ρ = ∃ ds, ρ[i]? = some (.own ds) ∧ te ρ fun s => ∃ d, datasIn [s] = some [d] ∧ ds.length < 100000 ∧ E.nx (ρ.set i (.own (ds ++ [d]))) := (Eq.refl _).trans (Eq.refl _)
theorem s_ext : vExtend i te E ρ = ∃ ds, ρ[i]? = some (.own ds) ∧ te ρ fun s => ∃ es, s.asW = some es ∧ ds.length + es.length ≤ 100000 ∧ E.nx (ρ.set i (.own (ds ++ es))) := (Eq.refl _).trans (Eq.refl _)
theorem s_par : vPar i j ts E ρ = ts ρ fun ss => ∃ a b, datasIn ss = some [a, b] ∧ E.nx ((ρ.set i (.v a)).set j (.v b)) := (Eq.refl _).trans (Eq.refl _)
theorem s_asgT {g : TGt} : vAsgT te g E ρ = te ρ fun s => ∃ d, s = .v d ∧ g d ρ E.nx := (Eq.refl _).trans (Eq.refl _)
theorem s_for {it : TVl} {g : TGt} : vFor it g t E ρ = it ρ fun ds => vLoop g t E ds ρ := (Eq.refl _).trans (Eq.refl _)
theorem s_cells : vCells i ρ Q = ∃ (a : Addr) (ns : List Int), ρ[i]? = some (.cell a ⟨false, ns⟩) ∧ Q (.v (.list (ns.map .int))) := (Eq.refl _).trans (Eq.refl _)
theorem s_cellN : vCellN i ρ Q = ∃ (a : Addr) (ns : List Int), ρ[i]? = some (.cell a ⟨false, ns⟩) ∧ ∀ n : Int, Q (.v (.int n)) := (Eq.refl _).trans (Eq.refl _)
theorem s_cellSet : vCellSet i te E ρ = ∃ (a : Addr) (ns : List Int), ρ[i]? = some (.cell a ⟨false, ns⟩) ∧ te ρ fun s => isI s fun _ => E.nx ρ := (Eq.refl _).trans (Eq.refl _)
theorem s_feed : vFeed te ρ Q = te ρ fun s => ∃ ns : List Int, s = .own (ns.map .int) ∧ ∀ a, Q (.cell a ⟨false, ns⟩) := (Eq.refl _).trans (Eq.refl _)
theorem s_call {tf : TF} {dss : List PyData} : vCall n tf dss ts ρ Q = ts ρ fun ss => TapsOld ρ ss ∧ ∃ ts, hands ss = some ts ∧ ts.length + dss.length = n ∧ tf (ts ++ dss.map .v) Q := (Eq.refl _).trans (Eq.refl _)
theorem s_callK {n1 n2 : Nat} {tf : TF} {tk : TVs} : vCallK n1 n2 n tf ts tk ρ Q = ts ρ fun ss => tk ρ fun zs => TapsOld ρ (ss ++ zs) ∧ ∃ ts, hands (ss ++ zs) = some ts ∧ ss.length = n1 ∧ zs.length = n2 ∧ ts.length = n ∧ tf ts Q := (Eq.refl _).trans (Eq.refl _)
theorem inE_cons {s t : SV} {r : List SV} : inE s (t :: r) = (t = s ∨ inE s r) := (Eq.refl _).trans (Eq.refl _)
theorem inE_self {s : SV} {r : List SV} : inE s (s :: r) = True := propext ⟨fun _ => trivial, fun _ => .inl rfl⟩
theorem taps_nil : TapsOld ρ [] = True := (Eq.refl _).trans (Eq.refl _)
theorem taps_v : TapsOld ρ (.v d :: ss) = TapsOld ρ ss := propext ⟨fun h => h.2, fun h => ⟨trivial, h⟩⟩
theorem taps_own : TapsOld ρ (.own ds :: ss) = TapsOld ρ ss := propext ⟨fun h => h.2, fun h => ⟨trivial, h⟩⟩
theorem taps_scr {ns : List Int} : TapsOld ρ (.scr ns :: ss) = TapsOld ρ ss := propext ⟨fun h => h.2, fun h => ⟨trivial, h⟩⟩
theorem taps_dct {kvs : List (L2.Key × PyData)} : TapsOld ρ (.dct kvs :: ss) = TapsOld ρ ss := propext ⟨fun h => h.2, fun h => ⟨trivial, h⟩⟩
theorem taps_cell {a : Addr} {ns : List Int} : TapsOld ρ (.cell a ⟨false, ns⟩ :: ss) = (inE (.cell a ⟨false, ns⟩) ρ ∧ TapsOld ρ ss) := (Eq.refl _).trans (Eq.refl _)
theorem taps_tap {a : Addr} {ns : List Int} : TapsOld ρ (.cell a ⟨true, ns⟩ :: ss) = (inE (.cell a ⟨true, ns⟩) ρ ∧ TapsOld ρ ss) := (Eq.refl _).trans (Eq.refl _)
theorem cell_ex {a : Addr} {t : Bool} {ns : List Int} {P : Addr → List Int → Prop} : (∃ (b : Addr) (ms : List Int), some (SV.cell a ⟨t, ns⟩) = some (.cell b ⟨t, ms⟩) ∧ P b ms) ↔ P a ns :=
  ⟨fun ⟨b, ms, e, h⟩ => by
    have e := Option.some.inj e
    injection e with e1 e2
    injection e2 with e2 e3
    rw [e1, e3]; exact h, fun h => ⟨a, ns, rfl, h⟩⟩
theorem own_ex {P : List PyData → Prop} : (∃ es, some (SV.own ds) = some (.own es) ∧ P es) ↔ P ds :=
  ⟨fun ⟨b, e, h⟩ => by injection e with e; injection e with e e2; rw [e2]; exact h, fun h => ⟨ds, rfl, h⟩⟩
theorem ow_ex {c0 : CT} {P : CT → List PyData → Prop} : (∃ c es, some (SV.ow c0 ds) = some (.ow c es) ∧ P c es) ↔ P c0 ds :=
  ⟨fun ⟨c, b, e, h⟩ => by injection e with e; injection e with e e2; rw [e, e2]; exact h, fun h => ⟨c0, ds, rfl, h⟩⟩
theorem v_ex {P : PyData → Prop} : (∃ e, SV.v d = .v e ∧ P e) ↔ P d :=
  ⟨fun ⟨b, e, h⟩ => by injection e with e; rw [e]; exact h, fun h => ⟨d, rfl, h⟩⟩
theorem pair_ex {a b : PyData} {P : PyData → PyData → Prop} : (∃ x y, some [a, b] = some [x, y] ∧ P x y) ↔ P a b :=
  ⟨fun ⟨x, y, e, h⟩ => by
    simp only [Option.some.injEq, List.cons.injEq, and_true] at e
    rw [e.1, e.2]; exact h, fun h => ⟨a, b, rfl, h⟩⟩
theorem one_ex {a : PyData} {P : PyData → Prop} : (∃ x, some [a] = some [x] ∧ P x) ↔ P a :=
  ⟨fun ⟨x, e, h⟩ => by
    simp only [Option.some.injEq, List.cons.injEq, and_true] at e
    rw [e]; exact h, fun h => ⟨a, rfl, h⟩⟩
theorem g_name : vgName i d ρ = fun R => R (ρ.set i (.v d)) := (Eq.refl _).trans (Eq.refl _)
theorem g_tup {g : TGts} {R : Env → Prop} : vgTup n g (.tuple ds) ρ R = (ds.length = n ∧ g ds ρ R) := by
  unfold vgTup
  exact propext ⟨fun ⟨es, e, h⟩ => by injection e with e; rw [e]; exact h, fun h => ⟨ds, rfl, h⟩⟩
theorem g_nil {R : Env → Prop} : vgNil [] ρ R = R ρ := by
  unfold vgNil
  exact propext ⟨fun h => h.2, fun h => ⟨rfl, h⟩⟩
theorem g_cons {g : TGt} {gs : TGts} {R : Env → Prop} : vgCons g gs (d :: ds) ρ R = g d ρ fun ρ' => gs ds ρ' R := by
  unfold vgCons
  refine propext ⟨fun ⟨a, b, e, h⟩ => ?_, fun h => ⟨d, ds, rfl, h⟩⟩
  simp only [List.cons.injEq] at e
  rw [e.1, e.2]; exact h
theorem r_1 {R : List PyData → Prop} {k : Int} : vRng1 (fun _ P => P [.v (.int k)]) ρ R = (k < 2 ^ 62 ∧ -(2 ^ 62) ≤ k ∧ R ((List.range k.toNat).map fun (i : Nat) => PyData.int (0 + (i : Int)))) := by
  unfold vRng1
  refine propext ⟨fun ⟨m, e, h⟩ => ?_, fun h => ⟨k, rfl, h⟩⟩
  simp only [List.cons.injEq, SV.v.injEq, PyData.int.injEq, and_true] at e
  rw [e]; exact h
end
/-- the law's end: from its meaning at the script -/
theorem law_want {K : PySem.W.Frag} {κ : Nat} {t : TF} (hκ : κ ≤ LIM) (h : ∀ ns : List Int, ns.length ≤ 63 → t [.scr ns] fun s => s = .v (.bool true)) (H : Hp) (a : Addr) (ns : List Int) (hl : ns.length ≤ 63) (hO : Only H) (hS : SqL K H a (ns.map V.int)) :
    spOf K 1 κ t [.ref a] H (fun v _ => v = .bl true) fun _ _ _ => False := by
  have sc : ScrL K H a ns := by
    intro H' k
    rcases hS with (q | ⟨o, q⟩) | q
    · rcases hO a with z | ⟨o, xs, z⟩
      · rw [z] at q; cases q
      · rw [z] at q; cases q
    · exact .inl (.inr ⟨o, k _ _ _ q⟩)
    · exact .inr q
  refine ⟨rfl, ⟨fun _ => False, 0⟩, [.scr ns], fun s => s = .v (.bool true), fun _ z => z.elim, ⟨⟨a, rfl, sc⟩, trivial⟩, fun s hs => ?_, by show 0 + κ ≤ LIM; omega, h ns hl, fun s u F' H' _ q _ r => ?_⟩
  · rw [List.mem_singleton.mp hs]
    exact ⟨(fun _ _ z => nomatch z), (fun _ _ z => nomatch z)⟩
  · subst q
    exact bool_of r.sr
theorem fund_mk {K : PySem.W.Frag} {x qual : Str} {st : Stmt} {kws : List (Str × V)} {f : Addr} {oc : Value} {od an : Option Addr} {osl : Array (Option Value)} {kV doc pm cdv ct : Value}
    (l : K.lookup f = some ⟨oc, od, .func (PySem.W.fnOf x qual (defArgs st) (defBody st) (defScope st) .none kV doc pm an cdv ct), osl⟩) (c : PySem.W.codeIn K cdv qual = true) (k : PySem.W.keepIn K (.ref f) = true) (hk : KwdV K kV kws) :
    FunD K x qual (defArgs st) (defBody st) (defScope st) [] kws f (PySem.W.fnOf x qual (defArgs st) (defBody st) (defScope st) .none kV doc pm an cdv ct) :=
  ⟨⟨oc, od, .none, kV, doc, pm, an, cdv, ct, osl, rfl, l, c, .inl ⟨rfl, rfl⟩, hk⟩, k⟩
theorem kt_tup {K : PySem.W.Frag} {F : FS} {H : Hp} {a : Addr} {o : Obj} {its : List Value} {n : Nat} {us : List V} {ds : List PyData} (l : K.lookup a = some o) (c : o.cls = .type "tuple") (nd : o.dict = none) (d : o.data = .seq its.toArray n) (hz : its.length ≤ 1000)
    (r : Vals us its) (h : RA K F H us ds) : R1 K F H (.ref a) (.tuple ds) :=
  .tup (.inr ⟨o, its.toArray, n, l, c, nd, d, by rw [List.size_toArray]; exact Nat.le_trans hz (by decide), by simpa using r⟩) h
end VL
namespace VL
open PySem PySem.Spec PyProof.Rows L2 VG
theorem divOk {i j : Int} (h : 0 < j) (h2 : j < 18446744073709551616) : CDivW i j := wide_div (b := 64) h (by omega) (by decide) (by decide)
theorem lay_ints : ∀ ns : List Int, PyData.canLayAll0 (ns.map PyData.int) = true
  | [] => rfl
  | n :: ns => by simp only [List.map_cons, PyData.canLayAll0, PyData.canLay0, lay_ints ns, Bool.and_self]
theorem depth_ints : ∀ ns : List Int, PyData.depthAll (ns.map PyData.int) = 0
  | [] => by simp [PyData.depthAll]
  | n :: ns => by simp [PyData.depthAll, PyData.depth, depth_ints ns]
theorem shaped_ints (ns : List Int) : SeqAt.shaped (.list (ns.map PyData.int)) = true := by
  show (PyData.canLay0 (.list (ns.map PyData.int)) && decide (PyData.depth (.list (ns.map PyData.int)) ≤ 64)) = true
  simp only [PyData.canLay0, lay_ints, PyData.depth, depth_ints]
  decide
theorem m_cellsNe {ns : List Int} {Q : SV → Prop} : fEq true (.v (.list (ns.map .int))) (.own []) Q = Q (.v (.bool (!ns.isEmpty))) := by
  have h1 := shaped_ints ns
  have h2 : SeqAt.shaped (.list []) = true := by decide
  have h3 : PyData.eqv (.list (ns.map PyData.int)) (.list []) = ns.isEmpty := by cases ns <;> rfl
  rw [m_eq (d := .list (ns.map PyData.int)) (e := .list []) rfl rfl]
  show (SeqAt.shaped (.list (ns.map PyData.int)) = true ∧ SeqAt.shaped (.list []) = true ∧ Q (.v (.bool (!PyData.eqv (.list (ns.map PyData.int)) (.list []))))) = _
  rw [h3]
  exact propext ⟨fun h => h.2.2, fun h => ⟨h1, h2, h⟩⟩
theorem ixN_of {n : Nat} {i : Int} (h0 : 0 ≤ i) (h1 : i < n) : ixN n i = some i.toNat := by
  unfold ixN
  rw [if_pos h0, if_pos h1]
theorem atI_of {α : Type} {xs : List α} {i : Int} (h0 : 0 ≤ i) (h1 : i < xs.length) : ∃ x, atI xs i = some x ∧ xs[i.toNat]? = some x := by
  have hl : i.toNat < xs.length := by omega
  refine ⟨xs[i.toNat], ?_, List.getElem?_eq_getElem hl⟩
  unfold atI
  rw [ixN_of h0 h1]
  exact List.getElem?_eq_getElem hl
/-- a cell of the feed is an int -/
theorem cell_int {ns : List Int} {i : Int} {R : PyData → Prop} (h0 : 0 < ns.length) (h : ∀ c : Int, R (.int c)) : ∃ d, atI (ns.map PyData.int) (i % (ns.map PyData.int).length) = some d ∧ R d := by
  have hl : (ns.map PyData.int).length = ns.length := List.length_map ..
  obtain ⟨x, e1, e2⟩ := atI_of (xs := ns.map PyData.int) (i := i % (ns.map PyData.int).length) (Int.emod_nonneg _ (by omega)) (Int.emod_lt_of_pos _ (by omega))
  refine ⟨x, e1, ?_⟩
  rw [List.getElem?_map] at e2
  rcases e3 : ns[(i % ((ns.map PyData.int).length : Int)).toNat]? with _ | c
  · rw [e3] at e2; cases e2
  · rw [e3] at e2
    cases e2
    exact h c
/-- a menu: each of its items will do -/
theorem pick {ds : List PyData} {i : Int} {R : PyData → Prop} (h0 : 0 ≤ i) (h1 : i < ds.length) (h : ∀ d ∈ ds, R d) : ∃ d, atI ds i = some d ∧ R d := by
  obtain ⟨x, e1, e2⟩ := atI_of h0 h1
  exact ⟨x, e1, h x (List.mem_of_getElem? e2)⟩
theorem pick_at {ds : List PyData} {k : Nat} {d : PyData} {R : PyData → Prop} (e : ds[k]? = some d) (h : R d) : ∃ d, atI ds (k : Int) = some d ∧ R d := ⟨d, atI_nat e, h⟩
end VL
namespace VL
open PySem PySem.Spec PyProof.Rows L2 VG
mutual
/-- no less than its text's length -/
def wt : PyData → Nat
  | .none => 4
  | .bool _ => 5
  | .int _ => 1921
  | .str x => (reprText x).length
  | .list xs => wtAll xs + 3
  | .tuple xs => wtAll xs + 3
  | .dict _ => 0
def wtAll : List PyData → Nat
  | [] => 0
  | x :: xs => wt x + 2 + wtAll xs
end
def lens : List Str → Nat
  | [] => 0
  | x :: xs => x.length + 2 + lens xs
theorem slen_append (x y : Str) : (x ++ y).length = x.length + y.length := strLen_append x y
theorem textFrom_le : ∀ (ts : List Str) (k : Nat) (acc : Str), (textFrom k acc ts).length ≤ acc.length + lens ts
  | [], k, acc => Nat.le_add_right _ _
  | t :: ts, k, acc => by
    have h := textFrom_le ts (k + 1) (acc ++ (if k > 0 then ", " else "" : String) ++ t)
    have e : (((if k > 0 then ", " else "" : String) : Str)).length ≤ 2 := by split <;> decide
    rw [slen_append, slen_append] at h
    show (textFrom (k + 1) _ ts).length ≤ acc.length + (t.length + 2 + lens ts)
    omega
theorem listText_le (ts : List Str) : (listText ts).length ≤ lens ts + 3 := by
  unfold listText
  have h := textFrom_le ts 0 "["
  have e1 : (("[" : String) : Str).length = 1 := rfl
  have e2 : (("]" : String) : Str).length = 1 := rfl
  rw [slen_append, e2]
  rw [e1] at h
  omega
theorem join_le : ∀ ts : List Str, (Str.join ", " ts).length ≤ lens ts
  | [] => Nat.zero_le _
  | [x] => by show x.length ≤ x.length + 2 + 0; omega
  | x :: y :: r => by
    have ih := join_le (y :: r)
    show (x ++ ", " ++ Str.join ", " (y :: r)).length ≤ x.length + 2 + lens (y :: r)
    have e : ((", " : String) : Str).length = 2 := rfl
    rw [slen_append, slen_append, e]
    omega
theorem tupleText_le (ts : List Str) : (tupleText ts).length ≤ lens ts + 3 := by
  unfold tupleText
  have h := join_le ts
  have e1 : (("(" : String) : Str).length = 1 := rfl
  have e2 : (((if ts.length == 1 then ",)" else ")" : String) : Str)).length ≤ 2 := by split <;> decide
  rw [slen_append, slen_append, e1]
  omega
mutual
theorem shown_le : ∀ d : PyData, d.showable = true → d.hasDict = false → d.shown.length ≤ wt d
  | .none, _, _ => by decide
  | .bool b, _, _ => by cases b <;> decide
  | .int i, h, _ => by
    have h' : i.natAbs.log2 < 1920 := by simpa [PyData.showable] using h
    exact int_text_len_1921 h'
  | .str x, _, _ => Nat.le_refl _
  | .list xs, h, h2 => Nat.le_trans (listText_le _) (Nat.add_le_add_right (shownAll_le xs (by simpa [PyData.showable] using h) (by simpa [PyData.hasDict] using h2)) 3)
  | .tuple xs, h, h2 => Nat.le_trans (tupleText_le _) (Nat.add_le_add_right (shownAll_le xs (by simpa [PyData.showable] using h) (by simpa [PyData.hasDict] using h2)) 3)
  | .dict _, _, h => by simp [PyData.hasDict] at h
theorem shownAll_le : ∀ ds : List PyData, PyData.showableAll ds = true → PyData.hasDictAll ds = false → lens (PyData.shownAll ds) ≤ wtAll ds
  | [], _, _ => Nat.le_refl _
  | d :: ds, h, h2 => by
    simp only [PyData.showableAll, Bool.and_eq_true] at h
    simp only [PyData.hasDictAll, Bool.or_eq_false_iff] at h2
    have a := shown_le d h.1 h2.1
    have b := shownAll_le ds h.2 h2.2
    show (PyData.shown d).length + 2 + lens (PyData.shownAll ds) ≤ wt d + 2 + wtAll ds
    omega
end
theorem shw_of {d : PyData} (h1 : d.showable = true) (h2 : d.hasDict = false) (h3 : d.depth ≤ 64) (h4 : wt d ≤ 16000000) : Shw d :=
  ⟨h1, h2, h3, Nat.le_trans (shown_le d h1 h2) (Nat.le_trans h4 (by decide))⟩
theorem showI {i : Int} (h : i.natAbs < 2 ^ 1900) : PyData.showable (.int i) = true := by
  have := PySem.Flt.log2_lt_of (n := i.natAbs) (k := 1900) (by decide) h
  simp only [PyData.showable, decide_eq_true_eq]
  omega
end VL
namespace VL
open PySem PySem.Spec PyProof.Rows L2 VG

/-! ### isinstance(e, T) -/
def tyName : PyData → String
  | .none => "NoneType"
  | .bool _ => "bool"
  | .int _ => "int"
  | .str _ => "str"
  | .list _ => "list"
  | .tuple _ => "tuple"
  | .dict _ => "dict"
def isT (T : String) (d : PyData) : Bool := tyName d == T || (tyName d == "bool" && T == "int")
theorem ty_of {K : PySem.W.Frag} {H : Hp} {u : V} {d : PyData} (h : Sh K H u d) : TyX K H u (.type (tyName d)) := by
  cases h with
  | non => exact .base .non
  | bl b => exact .base (.bl b)
  | int i => exact .base (.int i)
  | str x => exact .base (.str x)
  | lst a =>
    rcases a with (e | ⟨o, e⟩) | ⟨o, its, n, e, c, _⟩
    · exact .base (.lst e)
    · exact .base (.frz e)
    · exact .kList e c
  | dic a => exact .base (.dK a)
  | tup a =>
    rcases a with (e | ⟨o, e⟩) | ⟨o, its, n, e, c, _⟩
    · exact .base (.tup e)
    · exact .fTuple e
    · exact .kTuple e c
/-- the answers for these classes -/
def TyOk (T : String) : Prop := ∀ n ∈ ["NoneType", "bool", "int", "str", "list", "tuple", "dict"], kitB n T = some (n == T || (n == "bool" && T == "int"))
theorem tok_int : TyOk "int" := by unfold TyOk; decide +kernel
theorem tok_bool : TyOk "bool" := by unfold TyOk; decide +kernel
theorem tok_str : TyOk "str" := by unfold TyOk; decide +kernel
theorem tok_list : TyOk "list" := by unfold TyOk; decide +kernel
theorem tok_tuple : TyOk "tuple" := by unfold TyOk; decide +kernel
def vIsi (T : String) (t : TV) : TV := fun ρ Q => t ρ fun s => ∃ d, s.asD = some d ∧ Q (.v (.bool (isT T d)))
section
variable {X : Cx} {e f c : Expr} {t : TV}
theorem ve_isi {κ1 : Nat} {T : String} (h : ∀ te, PE X e te → PE X f (tCB (rIsi X.K) (tCons te (tCons (tC (.ty T)) tNil)))) (hT : TyOk T) (hc : ClsV (.ty T) (.type T)) (he : VE X e t κ1) : VE X f (vIsi T t) κ1 := by
  obtain ⟨te, pe, g⟩ := he
  refine ⟨_, h te pe, fun B F H σ ρ Q R er bq t k => ?_⟩
  refine g B F H σ ρ _ _ er (by omega) t fun s u F' H' cq ⟨d, e1, q⟩ x => ?_
  have dp := asD_sh x.sr e1
  have e2 : kitB (tyName d) T = some (isT T d) := by
    refine hT _ ?_
    cases dp <;> simp [tyName]
  exact ⟨u, .ty T, .type (tyName d), .type T, isT T d, rfl, hc, ty_of dp, kit_ty e2, k _ _ F' H' (by omega) q ⟨x.toExt, .bl _, trivial⟩⟩
end

/-! ### t[::-1] -/
theorem rev_places (n : Nat) : Builtin.Slice.sliceAdjust none none (-1) (n : Int) = ((n : Int) - 1, -1) ∧ Builtin.Slice.slicePlaces ((n : Int) - 1) (-1) (-1) = n := by
  constructor
  · simp [Builtin.Slice.sliceAdjust]
  · simp [Builtin.Slice.slicePlaces]
    omega
theorem fm_congr {α β : Type} {f g : α → Option β} : ∀ {l : List α}, (∀ m ∈ l, f m = g m) → l.filterMap f = l.filterMap g
  | [], _ => rfl
  | a :: l, h => by
    rw [List.filterMap_cons, List.filterMap_cons, h a (by simp), fm_congr fun m hm => h m (by simp [hm])]
theorem rev_pick (xs : Array Value) : ((List.range xs.size).filterMap fun (m : Nat) => xs[(((xs.size : Int) - 1) + (m : Int) * (-1)).toNat]?) = xs.toList.reverse := by
  have e : (List.range xs.size).filterMap (fun (m : Nat) => xs[(((xs.size : Int) - 1) + (m : Int) * (-1)).toNat]?) = ((List.range xs.size).map fun k => xs.size - 1 - k).filterMap (xs[·]?) := by
    rw [List.filterMap_map]
    refine fm_congr fun m hm => ?_
    have := List.mem_range.mp hm
    show xs[(((xs.size : Int) - 1) + (m : Int) * (-1)).toNat]? = xs[xs.size - 1 - m]?
    congr 1
    omega
  rw [e, PySem.W.krv_range, List.filterMap_reverse, PySem.W.krv_all]
section
variable {prog : Program} {w : World} {A : Around} {E : Value → Shared → Prop} {s : Shared}
theorem rev_applied {sl : Addr} {vl vu vs : Value} {n : Nat} {Q : Int × Int × Nat → Shared → Prop} (hs : s.heap.IsSliceOf sl vl vu vs) (pl : IsPart vl none) (pu : IsPart vu none) (ps : IsPart vs (some (-1)))
    (h : Q ((n : Int) - 1, -1, n) s) : wpAny (model prog w) A (Builtin.Slice.sliceApplied (.ref sl) (pure (n : Int))) Q E s := by
  obtain ⟨os, hos, hcs, hds⟩ := id hs
  have e := rev_places n
  unfold Builtin.Slice.sliceApplied Builtin.Slice.sliceFields
  refine wpAny_bind (wpAny_bind (wpAny_field hos hds (x := vl) rfl (wpAny_bind (wpAny_field hos hds (x := vu) rfl (wpAny_bind
    (wpAny_field hos hds (x := vs) rfl (wpAny_pure ?_)))))))
  refine wpAny_bind (HT.slicePart_ ps ?_)
  show wpAny _ _ (if ((-1 : Int) == 0) = true then _ else _) _ _ s
  rw [if_neg (by decide)]
  refine wpAny_bind (HT.slicePart_ pl (wpAny_bind (HT.slicePart_ pu (wpAny_bind (wpAny_pure ?_)))))
  show wpAny _ _ (match Builtin.Slice.sliceAdjust none none (-1) (n : Int) with | (lo, hi) => pure (lo, (-1 : Int), Builtin.Slice.slicePlaces lo hi (-1))) _ _ s
  rw [e.1]
  show wpAny _ _ (pure ((n : Int) - 1, (-1 : Int), Builtin.Slice.slicePlaces ((n : Int) - 1) (-1) (-1))) _ _ s
  rw [e.2]
  exact wpAny_pure h
theorem getItem_rev {t sl : Addr} {items : Array Value} {vl vu vs : Value} {Q : Value → Shared → Prop} (tp : IsTup s.heap t items) (hs : s.heap.IsSliceOf sl vl vu vs) (pl : IsPart vl none) (pu : IsPart vu none) (ps : IsPart vs (some (-1)))
    (h : Q (.ref s.heap.objs.size) { s with heap := s.heap.push { cls := .type "tuple", data := .seq items.toList.reverse.toArray } }) (hz : items.size ≤ sizeLine) : wpAny (model prog w) A (getItem (.ref t) (.ref sl)) Q E s := by
  have fits : sizeOk (.seq items.toList.reverse.toArray) := by
    show items.toList.reverse.toArray.size ≤ sizeLine
    simpa using hz
  obtain ⟨os, hos, hcs, hds⟩ := id hs
  have ts : s.TypeIs (.ref sl) "slice" := ⟨os, hos, hcs⟩
  unfold getItem
  try with_reducible refine wpAny_holding ?_
  first | refine wpAny_bind (wpAny_pure ?_) | skip
  refine wpAny_bind (wpAny_sequenceKey tp.typeIs (by decide) ?_)
  refine wpAny_bind (wpAny_callSpecial?_slot (name := Str.ofString "__getitem__") tp.typeIs PyProof.Rows.slot_tuple_getitem (wpAny_call_entry PyProof.Rows.slot_tuple_getitem tp.typeIs PyProof.Rows.entry_tuple_getitem ?_ (PyProof.Rows.args_tuple_getitem _ _)))
  show wpAny _ _ (Builtin.Tuple.tupleItemsOf (.ref t) >>= _) _ _ s
  refine wpAny_bind (PyProof.Rows.tupleItemsOf_ tp ?_)
  refine wpAny_bind (wpAny_typeOf ts ?_)
  rw [if_pos (by decide)]
  refine wpAny_bind (rev_applied hs pl pu ps ?_)
  have no : ¬ ((((items.size : Int) - 1) == 0 && (-1 : Int) == 1 && items.size == items.size) = true) := by simp
  show wpAny _ _ (if (((items.size : Int) - 1) == 0 && (-1 : Int) == 1 && items.size == items.size) = true then _ else _) _ _ s
  rw [if_neg no, rev_pick]
  first
    | exact wpAny_bind (m := Builtin.Tuple.tupleExact _) (wpAny_newObj_type (wpAny_pure ⟨_, rfl, wpAny_pure h⟩) fits)
    | exact wpAny_bind (m := Builtin.Tuple.tupleExact _) (wpAny_newObj_type (wpAny_bind (wpAny_pure (wpAny_pure ⟨_, rfl, wpAny_pure h⟩))) fits)
    | exact wpAny_bind (wpAny_bind (m := Builtin.Tuple.tupleExact _) (wpAny_newObj_type (wpAny_pure (wpAny_pure ⟨_, rfl, wpAny_pure h⟩)) fits))
    | exact wpAny_bind (wpAny_bind (m := Builtin.Tuple.tupleExact _) (wpAny_newObj_type (wpAny_pure ⟨_, rfl, wpAny_pure h⟩) fits))
end
section
variable {X : Cx} {e : Expr} {t : TV}
/-- e[::-1], of a list or a tuple -/
def tRevA (K : PySem.W.Frag) (te : TE) : TE := fun σ H Q => te σ H fun x H1 => ∃ a xs, x = .ref a ∧ SqT K H1 a xs ∧ NewT H1 xs.reverse Q
theorem pe_revT {te : TE} {k : Nat} {p1 p2 p3 pos : Pos} (he : PE X e te) : PE X (.Subscript e (.Slice none none (some (.UnaryOp .USub (.Constant (.int 1) k p1) p2)) p3) pos) (tRevA X.K te) := by
  refine ⟨fun pins s σ H Q I h => Subscript_ (thn (he.run pins s σ H _ I h) fun v s1 q1 => ?_)⟩
  obtain ⟨x, H1, I1, r1, a, xs, rfl, hx, q⟩ := q1
  cases r1
  have step : PO X (some (.UnaryOp .USub (.Constant (.int 1) k p1) p2)) (tPart (tUn (rU fun i => .int (-i)) (tC (.int 1)))) := po_some (pe_un un_neg pe_int)
  refine wpAny_Slice (thn (po_none.run pins s1 σ H1 (fun o H2 => o = none ∧ H2 = H1) I1 ⟨rfl, rfl⟩) fun vl s2 z1 => ?_)
  obtain ⟨_, _, I2, pl, rfl, rfl⟩ := z1
  refine thn (po_none.run pins s2 σ _ (fun o H3 => o = none ∧ H3 = _) I2 ⟨rfl, rfl⟩) fun vu s3 z2 => ?_
  obtain ⟨_, _, I3, pu, rfl, rfl⟩ := z2
  refine thn (step.run pins s3 σ _ (fun o H4 => o = some (-1) ∧ H4 = _) I3 ⟨1, rfl, -1, rfl, rfl, rfl⟩) fun vs s4 z3 => ?_
  obtain ⟨_, _, I4, ps, rfl, rfl⟩ := z3
  have I5 : Inv X pins σ _ { s4 with heap := s4.heap.push { cls := .type "slice", data := .fields #[vl, vu, vs] } } := I4.kept (t' := s4.toks) fun b ob q => Heap.get?_push_of_some _ q
  obtain ⟨its, r, tp, hz⟩ := I5.tuple hx
  show wpAny (model X.prog X.w) X.A (subscriptTail e (.Slice none none (some (.UnaryOp .USub (.Constant (.int 1) k p1) p2)) p3) (.ref a) (.ref s4.heap.objs.size)) (EP X pins σ Q) X.xe _
  refine tail_any (ops := [.ref a, .ref s4.heap.objs.size]) tp.typeIs PyProof.Rows.slot_tuple_getitem.lookup ?_ (by with_unfolding_all rfl)
  refine getItem_rev tp (Heap.IsSliceOf.new _ vl vu vs) pl pu ps ?_ (by rw [List.size_toArray, ← r.length]; exact hz)
  exact ep_tup I5 (by rw [List.length_reverse]; exact hz) r.reverse q
theorem RA.reverse {K : PySem.W.Frag} {F : FS} {H : Hp} : ∀ {us : List V} {ds : List PyData}, RA K F H us ds → RA K F H us.reverse ds.reverse
  | _, _, .nil => .nil
  | _, _, .cons a b => by
    rw [List.reverse_cons, List.reverse_cons]
    exact RA.append (RA.reverse b) (RA.one a)
def vRevT (t : TV) : TV := fun ρ Q => t ρ fun s => ∃ ds, s.asT = some ds ∧ Q (.v (.tuple ds.reverse))
theorem ve_revT {κ1 : Nat} {k : Nat} {p1 p2 p3 pos : Pos} (he : VE X e t κ1) : VE X (.Subscript e (.Slice none none (some (.UnaryOp .USub (.Constant (.int 1) k p1) p2)) p3) pos) (vRevT t) κ1 := by
  obtain ⟨te, pe, g⟩ := he
  refine ⟨_, pe_revT pe, fun B F H σ ρ Q R er bq t k => ?_⟩
  refine g B F H σ ρ _ _ er (by omega) t fun s u F' H' cq ⟨ds, e1, q⟩ x => ?_
  obtain ⟨a, xs, rfl, sq, r⟩ := asT_sq x.sr e1
  exact ⟨a, xs, rfl, sq.t, fun p o nd hp => k _ _ _ _ (by omega) q ((PRes.newT x.dm nd hp (RA.reverse r)).res x.toExt fun _ _ z => nomatch z)⟩
end
/-! ### text * n, list * n, tuple * n -/
section
variable {K : PySem.W.Frag}
abbrev rStrRep : R2 := fun x y H Q => ∃ z i, x = .str z ∧ y = .int i ∧ MulOk z i ∧ Q (.str (Txt.mul z i)) H
theorem op_strRep {X : Cx} : OpR X (binaryOp .Mult) rStrRep := by
  intro pins s σ H x y v u Q I rx ry h
  obtain ⟨z, i, rfl, rfl, c, q⟩ := h
  obtain ⟨t, rfl⟩ := rx
  obtain ⟨t', rfl⟩ := ry
  exact SB.mul c fun t' k => ⟨.str _, H, I.tok _, ⟨_, rfl⟩, q⟩
abbrev rMulAll (K : PySem.W.Frag) : R2 := r2or rMulA (r2or rStrRep (r2or rRep (rRepN K)))
theorem op_mulAll {X : Cx} : OpR X (binaryOp .Mult) (rMulAll X.K) := op_mulA.or (op_strRep.or (op_rep.or op_repN))
def fMulAll : FB := fun a b Q => match a, b with
  | .v (.int i), .v (.int j) => CMulA i j ∧ Q (.v (.int (i * j)))
  | .v (.str z), .v (.int i) => MulOk z i ∧ Q (.v (.str (Txt.mul z i)))
  | .v (.tuple ds), .v (.int i) => ds ≠ [] ∧ 2 ≤ i ∧ i ≤ 1000 ∧ ds.length ≤ 1000 ∧ Q (.v (.tuple (List.replicate i.toNat ds).flatten))
  | a, .v (.int i) => ∃ ds, a.asW = some ds ∧ -(2 ^ 63) ≤ i ∧ i < 2 ^ 63 ∧ ds.length * i.toNat ≤ sizeLine ∧ Q (.own (List.replicate i.toNat ds).flatten)
  | _, _ => False
theorem ops_mulAll : OpS K (rMulAll K) fMulAll := by
  intro F H u w a b Q R fo ra rb q k
  have lists : ∀ i : Int, b = .v (.int i) → (∃ ds, a.asW = some ds ∧ -(2 ^ 63) ≤ i ∧ i < 2 ^ 63 ∧ ds.length * i.toNat ≤ sizeLine ∧ Q (.own (List.replicate i.toNat ds).flatten)) → rMulAll K u w H R := by
    rintro i rfl ⟨ds, e1, h1, h2, h3, q⟩
    obtain ⟨p, us, rfl, e, r⟩ := asW_at ra e1
    exact .inr (.inr (.inl ⟨p, i, us, rfl, int_of rb, e, h1, h2, by rw [r.len]; exact h3, fun l hl => k _ _ _ _ q (fun _ _ z => nomatch z) (.newL fo hl (r.rep _))⟩))
  unfold fMulAll at q
  split at q
  · rename_i i j
    rw [int_of ra, int_of rb]
    have q2 := k _ _ F H q.2 (fun _ _ z => nomatch z) (.same fo (.int _))
    exact .inl (q.1.imp (fun c => ⟨i, j, rfl, rfl, c, q2⟩) fun c => ⟨i, j, rfl, rfl, c, q2⟩)
  · rename_i z i
    rw [str_of ra, int_of rb]
    exact .inr (.inl ⟨z, i, rfl, rfl, q.1, k _ _ F H q.2 (fun _ _ z => nomatch z) (.same fo (.str _))⟩)
  · rename_i ds i
    obtain ⟨h0, h1, h2, h3, q⟩ := q
    obtain ⟨p, us, rfl, e, r⟩ := asT_sq (ds := ds) ra rfl
    refine .inr (.inr (.inr ⟨p, i, us, rfl, int_of rb, e.t, fun z => h0 ?_, h1, h2, by rw [r.len]; exact h3, fun l o nd hl => k _ _ _ _ q (fun _ _ z => nomatch z) (.newT fo nd hl (r.rep _))⟩))
    subst z
    exact List.eq_nil_of_length_eq_zero r.len.symm
  · rename_i i _ _ _
    exact lists i rfl q
  · exact q.elim
end
/-! ### int(..), all(..) -/
section
variable {K : PySem.W.Frag}
abbrev rInt1 : List V → Hp → L2.VK → Prop := fun xs H Q => (∃ i, xs = [.int i] ∧ Q (.int i) H) ∨ ∃ k, xs = [.bl k] ∧ Q (.int (if k then 1 else 0)) H
def fInt : FC := fun ss Q => (∃ i, ss = [.v (.int i)] ∧ Q (.v (.int i))) ∨ ∃ b, ss = [.v (.bool b)] ∧ Q (.v (.int (if b then 1 else 0)))
theorem cs_int : CallS K rInt1 fInt := by
  intro F H us ss Q R fo al q k
  rcases q with ⟨i, e, q⟩ | ⟨b, e, q⟩
  · subst e
    obtain ⟨u, rfl, h⟩ := ah1 al
    rw [int_of h]
    exact .inl ⟨i, rfl, k _ _ F H q (fun _ _ z => nomatch z) (.same fo (.int _))⟩
  · subst e
    obtain ⟨u, rfl, h⟩ := ah1 al
    rw [bool_of h]
    exact .inr ⟨b, rfl, k _ _ F H q (fun _ _ z => nomatch z) (.same fo (.int _))⟩
theorem data_bools {F : FS} {H : Hp} : ∀ {us : List V} {bs : List Bool}, RA K F H us (bs.map PyData.bool) → us = bs.map V.bl
  | [], [], _ => rfl
  | _ :: _, [], h => by cases h
  | [], _ :: _, h => by cases h
  | u :: us, b :: bs, h => by
    cases h with
    | cons a c =>
      cases a with
      | bl b => rw [data_bools c]; rfl
def fAll : FC := fun ss Q => ∃ (s : SV) (bs : List Bool), ss = [s] ∧ s.asL = some (bs.map PyData.bool) ∧ Q (.v (.bool (bs.all id)))
theorem cs_all : CallS K (rAll K) fAll := by
  intro F H us ss Q R fo al ⟨s, bs, e, e1, q⟩ k
  subst e
  obtain ⟨u, rfl, h⟩ := ah1 al
  obtain ⟨a, xs, rfl, sq, r⟩ := asL_sq h e1
  rw [data_bools r] at sq
  exact ⟨a, bs, rfl, sq, k _ _ F H q (fun _ _ z => nomatch z) (.same fo (.bl _))⟩
end
theorem gok_false {P : Program} {w : World} {K : PySem.W.Frag} {mg : Str → Option Value} {base : Heap} {k n κ : Nat} {f : Addr} {fd : FuncData} {ps : List Str} (h : ps.length = n) : GOk P w K mg base CX0 k f fd ps (spOf K n κ fun _ _ => False) :=
  ⟨fun vs H Q E q => q.1.trans h.symm, fun A _ _ outer s H _ args us vs Q E _ _ q => by
    obtain ⟨_, F, ss, Qv, _, _, _, _, z, _⟩ := q
    exact z.elim⟩
section
variable {Q : SV → Prop} {d : PyData} {ds : List PyData} {T : String} {t : TV} {ρ : Env} {i : Int}
theorem m_isi : vIsi T t ρ Q = t ρ fun s => ∃ d, s.asD = some d ∧ Q (.v (.bool (isT T d))) := (Eq.refl _).trans (Eq.refl _)
theorem asD_v : SV.asD (.v d) = some d := (Eq.refl _).trans (Eq.refl _)
theorem asD_own : SV.asD (.own ds) = some (.list ds) := (Eq.refl _).trans (Eq.refl _)
theorem asD_brw : SV.asD (.brw ds) = some (.list ds) := (Eq.refl _).trans (Eq.refl _)
theorem m_revT : vRevT t ρ Q = t ρ fun s => ∃ ds, s.asT = some ds ∧ Q (.v (.tuple ds.reverse)) := (Eq.refl _).trans (Eq.refl _)
theorem asT_v : SV.asT (.v (.tuple ds)) = some ds := (Eq.refl _).trans (Eq.refl _)
theorem m_intI : fInt [.v (.int i)] Q = Q (.v (.int i)) := by simp [fInt]
theorem m_intB {b : Bool} : fInt [.v (.bool b)] Q = Q (.v (.int (if b then 1 else 0))) := by simp [fInt]
theorem m_mulS {z : Str} : fMulAll (.v (.str z)) (.v (.int i)) Q = (MulOk z i ∧ Q (.v (.str (Txt.mul z i)))) := (Eq.refl _).trans (Eq.refl _)
theorem m_addS {x y : Str} : fAdd (.v (.str x)) (.v (.str y)) Q = (x.length + y.length ≤ sizeLine ∧ Q (.v (.str (x ++ y)))) := (Eq.refl _).trans (Eq.refl _)
theorem m_addT {es : List PyData} : fAdd (.v (.tuple ds)) (.v (.tuple es)) Q = (ds.length + es.length ≤ sizeLine ∧ Q (.v (.tuple (ds ++ es)))) := (Eq.refl _).trans (Eq.refl _)
theorem m_addLO {es : List PyData} : fAdd (.v (.list ds)) (.own es) Q = (ds.length + es.length ≤ sizeLine ∧ Q (.own (ds ++ es))) := by simp [fAdd, SV.asW]
theorem m_addBO {es : List PyData} : fAdd (.brw ds) (.own es) Q = (ds.length + es.length ≤ sizeLine ∧ Q (.own (ds ++ es))) := by simp [fAdd, SV.asW]
theorem m_addOO {es : List PyData} : fAdd (.own ds) (.own es) Q = (ds.length + es.length ≤ sizeLine ∧ Q (.own (ds ++ es))) := by simp [fAdd, SV.asW]
theorem m_addLL {es : List PyData} : fAdd (.v (.list ds)) (.v (.list es)) Q = (ds.length + es.length ≤ sizeLine ∧ Q (.own (ds ++ es))) := by simp [fAdd, SV.asW]
theorem m_addOL {es : List PyData} : fAdd (.own ds) (.v (.list es)) Q = (ds.length + es.length ≤ sizeLine ∧ Q (.own (ds ++ es))) := by simp [fAdd, SV.asW]
theorem m_addOB {es : List PyData} : fAdd (.own ds) (.brw es) Q = (ds.length + es.length ≤ sizeLine ∧ Q (.own (ds ++ es))) := by simp [fAdd, SV.asW]
theorem m_slT {tl th : TVo} : vSl t tl th ρ Q = t ρ fun s => tl ρ fun lo => th ρ fun hi => (∃ ds, s.asL = some ds ∧ Q (.own (VL.cutD ds lo hi))) ∨ (∃ ds, s.asT = some ds ∧ Q (.v (.tuple (VL.cutD ds lo hi)))) ∨ ∃ z : Str, s = .v (.str z) ∧ z.length ≤ sizeLine ∧ Q (.v (.str (cutS z lo hi))) := (Eq.refl _).trans (Eq.refl _)
theorem m_some : vSome t ρ = fun R => t ρ fun s => isI s fun i => R (some i) := (Eq.refl _).trans (Eq.refl _)
end
end VL
namespace VL
open PySem PySem.Spec PyProof.Rows L2 VG
def strG (x : Str) : Bool := x.cps.toList.all fun c => decide (c < 1114112)
mutual
/-- ints below 2 ^ b, plain signs, no dict -/
def chk (b : Nat) : PyData → Bool
  | .none => true
  | .bool _ => true
  | .int i => decide (i.natAbs < 2 ^ b)
  | .str x => strG x
  | .list xs => chkAll b xs
  | .tuple xs => chkAll b xs
  | .dict _ => false
def chkAll (b : Nat) : List PyData → Bool
  | [] => true
  | x :: xs => chk b x && chkAll b xs
end
mutual
def sz : PyData → Nat
  | .none => 1
  | .bool _ => 1
  | .int _ => 1
  | .str x => x.length + 1
  | .list xs => szAll xs + 1
  | .tuple xs => szAll xs + 1
  | .dict _ => 1
def szAll : List PyData → Nat
  | [] => 0
  | x :: xs => sz x + szAll xs
end
theorem sz_pos : ∀ d : PyData, 0 < sz d
  | .none => Nat.one_pos
  | .bool _ => Nat.one_pos
  | .int _ => Nat.one_pos
  | .str x => Nat.succ_pos _
  | .list xs => Nat.succ_pos _
  | .tuple xs => Nat.succ_pos _
  | .dict _ => Nat.one_pos
mutual
theorem chk_facts : ∀ (d : PyData) {b : Nat}, b ≤ 1900 → chk b d = true → d.showable = true ∧ d.hasDict = false ∧ wt d ≤ 1930 * sz d
  | .none, _, _, _ => ⟨rfl, rfl, by decide⟩
  | .bool _, _, _, _ => ⟨rfl, rfl, by show 5 ≤ 1930 * 1; decide⟩
  | .int i, b, hb, h => by
    simp only [chk, decide_eq_true_eq] at h
    exact ⟨showI (Nat.lt_of_lt_of_le h (Nat.pow_le_pow_right (by decide) hb)), rfl, by show 1921 ≤ 1930 * 1; decide⟩
  | .str x, _, _, h => by
    simp only [chk, strG, List.all_eq_true, decide_eq_true_eq] at h
    have := PySem.StrLaws.reprText_len x fun c hc => Nat.lt_of_lt_of_le (h c hc) (by decide)
    refine ⟨rfl, rfl, ?_⟩
    show (reprText x).length ≤ 1930 * (x.length + 1)
    omega
  | .list xs, _, hb, h => by
    obtain ⟨h1, h2, h3⟩ := chkAll_facts xs hb h
    exact ⟨h1, h2, by show wtAll xs + 3 ≤ 1930 * (szAll xs + 1); omega⟩
  | .tuple xs, _, hb, h => by
    obtain ⟨h1, h2, h3⟩ := chkAll_facts xs hb h
    exact ⟨h1, h2, by show wtAll xs + 3 ≤ 1930 * (szAll xs + 1); omega⟩
  | .dict _, _, _, h => by cases h
theorem chkAll_facts : ∀ (ds : List PyData) {b : Nat}, b ≤ 1900 → chkAll b ds = true → PyData.showableAll ds = true ∧ PyData.hasDictAll ds = false ∧ wtAll ds ≤ 1930 * szAll ds
  | [], _, _, _ => ⟨rfl, rfl, Nat.le_refl _⟩
  | d :: ds, b, hb, h => by
    simp only [chkAll, Bool.and_eq_true] at h
    obtain ⟨a1, a2, a3⟩ := chk_facts d hb h.1
    obtain ⟨b1, b2, b3⟩ := chkAll_facts ds hb h.2
    refine ⟨by simp only [PyData.showableAll, a1, b1]; rfl, by simp only [PyData.hasDictAll, a2, b2]; rfl, ?_⟩
    have h3 : wt d + 2 ≤ 1930 * sz d := by
      cases d with
      | none => show 4 + 2 ≤ 1930 * 1; decide
      | bool _ => show 5 + 2 ≤ 1930 * 1; decide
      | int _ => show 1921 + 2 ≤ 1930 * 1; decide
      | str x =>
        have hc := h.1
        simp only [chk, strG, List.all_eq_true, decide_eq_true_eq] at hc
        have := PySem.StrLaws.reprText_len x fun c hc' => Nat.lt_of_lt_of_le (hc c hc') (by decide)
        show (reprText x).length + 2 ≤ 1930 * (x.length + 1)
        omega
      | list xs =>
        obtain ⟨_, _, q⟩ := chkAll_facts xs hb h.1
        show wtAll xs + 3 + 2 ≤ 1930 * (szAll xs + 1)
        omega
      | tuple xs =>
        obtain ⟨_, _, q⟩ := chkAll_facts xs hb h.1
        show wtAll xs + 3 + 2 ≤ 1930 * (szAll xs + 1)
        omega
      | dict _ => cases h.1
    show wt d + 2 + wtAll ds ≤ 1930 * (sz d + szAll ds)
    omega
end
/-- of bounded ints, size and depth -/
structure Gd (b c n : Nat) (d : PyData) : Prop where
  ck : chk b d = true
  sz : sz d ≤ c
  dp : d.depth ≤ n
structure GdA (b c n : Nat) (ds : List PyData) : Prop where
  ck : chkAll b ds = true
  sz : szAll ds ≤ c
  dp : PyData.depthAll ds ≤ n
theorem Gd.shw {b c n : Nat} {d : PyData} (g : Gd b c n d) (hb : b ≤ 1900) (hc : c ≤ 8000) (hn : n ≤ 64) : Shw d := by
  obtain ⟨h1, h2, h3⟩ := chk_facts d hb g.ck
  have h4 := g.sz
  exact shw_of h1 h2 (Nat.le_trans g.dp hn) (by omega)
mutual
theorem chk_mono {b b' : Nat} (h : b ≤ b') : ∀ d : PyData, chk b d = true → chk b' d = true
  | .none, _ => rfl
  | .bool _, _ => rfl
  | .int i, e => by
    simp only [chk, decide_eq_true_eq] at *
    exact Nat.lt_of_lt_of_le e (Nat.pow_le_pow_right (by decide) h)
  | .str x, e => e
  | .list xs, e => chkAll_mono h xs e
  | .tuple xs, e => chkAll_mono h xs e
  | .dict _, e => e
theorem chkAll_mono {b b' : Nat} (h : b ≤ b') : ∀ ds : List PyData, chkAll b ds = true → chkAll b' ds = true
  | [], _ => rfl
  | d :: ds, e => by
    simp only [chkAll, Bool.and_eq_true] at *
    exact ⟨chk_mono h d e.1, chkAll_mono h ds e.2⟩
end
theorem Gd.mono {b c n b' c' n' : Nat} {d : PyData} (g : Gd b c n d) (h1 : b ≤ b') (h2 : c ≤ c') (h3 : n ≤ n') : Gd b' c' n' d :=
  ⟨chk_mono h1 d g.ck, Nat.le_trans g.sz h2, Nat.le_trans g.dp h3⟩
theorem GdA.mono {b c n b' c' n' : Nat} {d : List PyData} (g : GdA b c n d) (h1 : b ≤ b') (h2 : c ≤ c') (h3 : n ≤ n') : GdA b' c' n' d :=
  ⟨chkAll_mono h1 d g.ck, Nat.le_trans g.sz h2, Nat.le_trans g.dp h3⟩
theorem chkAll_append {b : Nat} : ∀ {xs ys : List PyData}, chkAll b (xs ++ ys) = (chkAll b xs && chkAll b ys)
  | [], _ => rfl
  | x :: xs, ys => by simp only [List.cons_append, chkAll, chkAll_append (xs := xs), Bool.and_assoc]
theorem szAll_append : ∀ {xs ys : List PyData}, szAll (xs ++ ys) = szAll xs + szAll ys
  | [], ys => by simp [szAll]
  | x :: xs, ys => by simp only [List.cons_append, szAll, szAll_append (xs := xs)]; omega
theorem depthAll_append : ∀ {xs ys : List PyData}, PyData.depthAll (xs ++ ys) = max (PyData.depthAll xs) (PyData.depthAll ys)
  | [], ys => by simp [PyData.depthAll]
  | x :: xs, ys => by simp only [List.cons_append, PyData.depthAll, depthAll_append (xs := xs)]; omega
theorem GdA.append {b c n c' : Nat} {xs ys : List PyData} (g : GdA b c n xs) (h : GdA b c' n ys) : GdA b (c + c') n (xs ++ ys) :=
  ⟨by rw [chkAll_append, g.ck, h.ck]; rfl, by rw [szAll_append]; have := g.sz; have := h.sz; omega, by rw [depthAll_append]; have := g.dp; have := h.dp; omega⟩
theorem GdA.left {b c n : Nat} {xs ys : List PyData} (g : GdA b c n (xs ++ ys)) : GdA b c n xs := by
  have h1 := g.ck
  have h2 := g.sz
  have h3 := g.dp
  rw [chkAll_append, Bool.and_eq_true] at h1
  rw [szAll_append] at h2
  rw [depthAll_append] at h3
  exact ⟨h1.1, by omega, by omega⟩
theorem GdA.right {b c n : Nat} {xs ys : List PyData} (g : GdA b c n (xs ++ ys)) : GdA b c n ys := by
  have h1 := g.ck
  have h2 := g.sz
  have h3 := g.dp
  rw [chkAll_append, Bool.and_eq_true] at h1
  rw [szAll_append] at h2
  rw [depthAll_append] at h3
  exact ⟨h1.2, by omega, by omega⟩
theorem GdA.take {b c n : Nat} {xs : List PyData} (g : GdA b c n xs) (k : Nat) : GdA b c n (xs.take k) := by
  rw [← List.take_append_drop k xs] at g
  exact g.left
theorem GdA.drop {b c n : Nat} {xs : List PyData} (g : GdA b c n xs) (k : Nat) : GdA b c n (xs.drop k) := by
  rw [← List.take_append_drop k xs] at g
  exact g.right
theorem GdA.cut {b c n : Nat} {xs : List PyData} (g : GdA b c n xs) (lo hi : Option Int) : GdA b c n (VL.cutD xs lo hi) := (g.drop _).take _
theorem GdA.cons {b c n : Nat} {x : PyData} {xs : List PyData} (g : Gd b c n x) {c' : Nat} (h : GdA b c' n xs) : GdA b (c + c') n (x :: xs) := by
  refine ⟨?_, ?_, ?_⟩
  · simp only [chkAll, g.ck, h.ck]; rfl
  · have := g.sz; have := h.sz; simp only [szAll]; omega
  · have := g.dp; have := h.dp; simp only [PyData.depthAll]; omega
theorem GdA.nil {b n : Nat} : GdA b 0 n [] := ⟨rfl, Nat.le_refl _, by simp [PyData.depthAll]⟩
theorem GdA.one {b c n : Nat} {x : PyData} (g : Gd b c n x) : GdA b c n [x] := GdA.cons g GdA.nil
theorem GdA.get {b c n : Nat} {xs : List PyData} (g : GdA b c n xs) {i : Nat} {d : PyData} (e : xs[i]? = some d) : Gd b c n d := by
  have hl := (List.getElem?_eq_some_iff.mp e)
  obtain ⟨hl, e2⟩ := hl
  have h := g.drop i
  rw [List.drop_eq_getElem_cons hl, e2] at h
  have h1 := h.ck
  have h2 := h.sz
  have h3 := h.dp
  simp only [chkAll, Bool.and_eq_true] at h1
  simp only [szAll] at h2
  simp only [PyData.depthAll] at h3
  exact ⟨h1.1, by omega, by omega⟩
theorem GdA.reverse {b c n : Nat} : ∀ {xs : List PyData} {c : Nat}, GdA b c n xs → GdA b c n xs.reverse
  | [], _, g => g
  | x :: xs, c, g => by
    have h1 := g.ck
    have h2 := g.sz
    have h3 := g.dp
    simp only [chkAll, Bool.and_eq_true] at h1
    simp only [szAll] at h2
    simp only [PyData.depthAll] at h3
    rw [List.reverse_cons]
    have a : GdA b (szAll xs) n xs := ⟨h1.2, Nat.le_refl _, by omega⟩
    have o : Gd b (VL.sz x) n x := ⟨h1.1, Nat.le_refl _, by omega⟩
    exact ((GdA.reverse (c := szAll xs) a).append (GdA.one o)).mono (Nat.le_refl _) (by omega) (Nat.le_refl _)
theorem Gd.tup {b c n : Nat} {xs : List PyData} (g : GdA b c n xs) : Gd b (c + 1) (n + 1) (.tuple xs) :=
  ⟨g.ck, by have := g.sz; show szAll xs + 1 ≤ _; omega, by have := g.dp; simp only [PyData.depth]; omega⟩
theorem Gd.lst {b c n : Nat} {xs : List PyData} (g : GdA b c n xs) : Gd b (c + 1) (n + 1) (.list xs) :=
  ⟨g.ck, by have := g.sz; show szAll xs + 1 ≤ _; omega, by have := g.dp; simp only [PyData.depth]; omega⟩
theorem Gd.untup {b c n : Nat} {xs : List PyData} (g : Gd b c n (.tuple xs)) : GdA b (c - 1) (n - 1) xs ∧ 1 ≤ c ∧ 1 ≤ n := by
  have h1 : chkAll b xs = true := g.ck
  have h2 : szAll xs + 1 ≤ c := g.sz
  have h3 := g.dp
  simp only [PyData.depth] at h3
  exact ⟨⟨h1, by omega, by omega⟩, by omega, by omega⟩
theorem Gd.int {b n : Nat} {i : Int} (h : i.natAbs < 2 ^ b) : Gd b 1 n (.int i) := ⟨by simp only [chk, decide_eq_true_eq]; exact h, Nat.le_refl _, by simp [PyData.depth]⟩
theorem Gd.unint {b c n : Nat} {i : Int} (g : Gd b c n (.int i)) : i.natAbs < 2 ^ b := by
  have := g.ck
  simpa only [chk, decide_eq_true_eq] using this
theorem Gd.bool {b n : Nat} {x : Bool} : Gd b 1 n (.bool x) := ⟨rfl, Nat.le_refl _, by simp [PyData.depth]⟩
theorem Gd.none {b n : Nat} : Gd b 1 n .none := ⟨rfl, Nat.le_refl _, by simp [PyData.depth]⟩
theorem Gd.str {b n : Nat} {x : Str} (h : strG x = true) : Gd b (x.length + 1) n (.str x) := ⟨h, Nat.le_refl _, by simp [PyData.depth]⟩
end VL
namespace VL
open PySem PySem.Spec PyProof.Rows L2 VG
/-! ### texts -/
theorem strG_append {x y : Str} (h1 : strG x = true) (h2 : strG y = true) : strG (x ++ y) = true := by
  unfold strG at *
  rw [show (x ++ y).cps = x.cps ++ y.cps from rfl, Array.toList_append, List.all_append, h1, h2]; rfl
theorem strG_cut {x : Str} (h : strG x = true) (lo hi : Option Int) : strG (cutS x lo hi) = true := by
  unfold strG at *
  rw [List.all_eq_true] at *
  intro c hc
  refine h c ?_
  have : c ∈ ((x.cps.toList.drop (HT.sIx x.length 0 lo)).take (HT.sIx x.length x.length hi - HT.sIx x.length 0 lo)) := by
    unfold cutS at hc
    simpa using hc
  exact List.mem_of_mem_drop (List.mem_of_mem_take this)
theorem strG_reps {c : Array Nat} (h : ∀ k ∈ c.toList, k < 1114112) : ∀ (n : Nat) (acc : Array Nat), (∀ k ∈ acc.toList, k < 1114112) → ∀ k ∈ ((List.replicate n c).foldl (· ++ ·) acc).toList, k < 1114112
  | 0, acc, ha => ha
  | n + 1, acc, ha => by
    rw [List.replicate_succ, List.foldl_cons]
    refine strG_reps h n _ fun k hk => ?_
    rw [Array.toList_append, List.mem_append] at hk
    exact hk.elim (ha k) (h k)
theorem strG_mul {x : Str} (h : strG x = true) (n : Int) : strG (Txt.mul x n) = true := by
  unfold strG at *
  simp only [List.all_eq_true, decide_eq_true_eq] at *
  unfold Txt.mul
  split
  · intro k hk; simp [Str.empty] at hk
  · split
    · exact h
    · exact strG_reps h _ _ (by simp)
/-! ### shaped -/
mutual
theorem lay_of {b : Nat} : ∀ d : PyData, chk b d = true → d.canLay0 = true
  | .none, _ => rfl
  | .bool _, _ => rfl
  | .int _, _ => rfl
  | .str x, h => by
    simp only [chk, strG, List.all_eq_true, decide_eq_true_eq] at h
    show PyData.strOk x = true
    unfold PyData.strOk
    rw [← Array.all_toList, List.all_eq_true]
    intro c hc
    exact decide_eq_true (h c hc)
  | .list xs, h => layAll_of xs h
  | .tuple xs, h => layAll_of xs h
  | .dict _, h => by cases h
theorem layAll_of {b : Nat} : ∀ ds : List PyData, chkAll b ds = true → PyData.canLayAll0 ds = true
  | [], _ => rfl
  | d :: ds, h => by
    simp only [chkAll, Bool.and_eq_true] at h
    simp only [PyData.canLayAll0, lay_of d h.1, layAll_of ds h.2]; rfl
end
theorem Gd.shaped {b c n : Nat} {d : PyData} (g : Gd b c n d) (hn : n ≤ 64) : SeqAt.shaped d = true := by
  unfold SeqAt.shaped
  rw [lay_of d g.ck, decide_eq_true (Nat.le_trans g.dp hn)]; rfl
theorem eqD_tt {b c n b' c' n' : Nat} {ds es : List PyData} {P : Bool → Prop} (g : Gd b c n (.tuple ds)) (g' : Gd b' c' n' (.tuple es)) (hn : n ≤ 64) (hn' : n' ≤ 64) (h : P (PyData.eqvAll ds es)) : eqD (.tuple ds) (.tuple es) P :=
  ⟨g.shaped hn, g'.shaped hn', h⟩
theorem fEq_tt {b c n b' c' n' : Nat} {ds es : List PyData} {Q : SV → Prop} {neg : Bool} (g : Gd b c n (.tuple ds)) (g' : Gd b' c' n' (.tuple es)) (hn : n ≤ 64) (hn' : n' ≤ 64) (h : Q (.v (.bool (if neg then !PyData.eqvAll ds es else PyData.eqvAll ds es)))) : fEq neg (.v (.tuple ds)) (.v (.tuple es)) Q :=
  ⟨_, _, rfl, rfl, eqD_tt g g' hn hn' h⟩
/-! ### pieces -/
theorem cut_lo {xs : List PyData} {k : Nat} : VL.cutD xs none (some (k : Int)) = xs.take k := by
  unfold VL.cutD
  rw [HT.sIx_none, HT.sIx_nat, List.drop_zero, Nat.sub_zero]
  by_cases h : k ≤ xs.length
  · rw [Nat.min_eq_left h]
  · rw [Nat.min_eq_right (by omega), List.take_of_length_le (by omega), List.take_of_length_le (by omega)]
theorem cut_hi {xs : List PyData} {k : Nat} : VL.cutD xs (some (k : Int)) none = xs.drop k := by
  unfold VL.cutD
  rw [HT.sIx_none, HT.sIx_nat]
  by_cases h : k ≤ xs.length
  · rw [Nat.min_eq_left h, List.take_of_length_le (by rw [List.length_drop]; omega)]
  · rw [Nat.min_eq_right (by omega), List.drop_of_length_le (by omega), List.drop_of_length_le (by omega)]; exact List.take_nil
theorem GdA.len {b c n : Nat} : ∀ {xs : List PyData} {c : Nat}, GdA b c n xs → xs.length ≤ c
  | [], _, _ => Nat.zero_le _
  | x :: xs, c, g => by
    have h1 := g.ck
    have h2 := g.sz
    have h3 := g.dp
    simp only [chkAll, Bool.and_eq_true] at h1
    simp only [szAll] at h2
    simp only [PyData.depthAll] at h3
    have := GdA.len (c := szAll xs) (⟨h1.2, Nat.le_refl _, by omega⟩ : GdA b _ n xs)
    have := sz_pos x
    simp only [List.length_cons]
    omega
/-- one item in another one's place -/
theorem GdA.put {b c n c' : Nat} {xs : List PyData} (g : GdA b c n xs) {i : Nat} {d e : PyData} (h : xs[i]? = some d) (ge : Gd b c' n e) : GdA b (c + c') n (xs.take i ++ e :: xs.drop (i + 1)) := by
  have a := g.take i
  obtain ⟨hl, he⟩ := List.getElem?_eq_some_iff.mp h
  have hx : xs.take i ++ xs.drop i = xs := List.take_append_drop i xs
  have hd : xs.drop i = xs[i] :: xs.drop (i + 1) := List.drop_eq_getElem_cons hl
  have s1 : szAll (xs.take i) + szAll (xs.drop i) = szAll xs := by rw [← szAll_append, hx]
  have s2 : szAll (xs.drop i) = VL.sz xs[i] + szAll (xs.drop (i + 1)) := by rw [hd, szAll]
  have k := g.drop (i + 1)
  have := (GdA.append (⟨a.ck, Nat.le_refl _, a.dp⟩ : GdA b (szAll (xs.take i)) n (xs.take i)) (GdA.cons ge (⟨k.ck, Nat.le_refl _, k.dp⟩ : GdA b (szAll (xs.drop (i + 1))) n (xs.drop (i + 1)))))
  exact this.mono (Nat.le_refl _) (by have := g.sz; omega) (Nat.le_refl _)
theorem GdA.snoc {b c n c' : Nat} {x : PyData} {xs : List PyData} (h : GdA b c n xs) (g : Gd b c' n x) : GdA b (c + c') n (xs ++ [x]) := h.append (GdA.one g)
theorem GdA.mem {b c n : Nat} {xs : List PyData} (g : GdA b c n xs) {d : PyData} (h : d ∈ xs) : Gd b c n d := by
  obtain ⟨i, e⟩ := List.getElem?_of_mem h
  exact g.get e
/-- a thing of a few, at a place drawn -/
theorem chk_int {b : Nat} {i : Int} (h : i.natAbs < 2 ^ b) : chk b (.int i) = true := decide_eq_true h
theorem abs_mono {i : Int} {b b' : Nat} (h : i.natAbs < 2 ^ b) (hb : b ≤ b') : i.natAbs < 2 ^ b' := Nat.lt_of_lt_of_le h (Nat.pow_le_pow_right (by decide) hb)
theorem abs_add {i j : Int} {b : Nat} (h : i.natAbs < 2 ^ b) (h' : j.natAbs < 2 ^ b) : (i + j).natAbs < 2 ^ (b + 1) := by
  rw [Nat.pow_succ]; omega
/-! ### isinstance, of each kind -/
theorem isT_int_none  : isT "int" .none = false := by simp [isT, tyName]
theorem isT_int_bool {x : Bool} : isT "int" (.bool x) = true := by simp [isT, tyName]
theorem isT_int_int {i : Int} : isT "int" (.int i) = true := by simp [isT, tyName]
theorem isT_int_str {z : Str} : isT "int" (.str z) = false := by simp [isT, tyName]
theorem isT_int_list {ds : List PyData} : isT "int" (.list ds) = false := by simp [isT, tyName]
theorem isT_int_tuple {ds : List PyData} : isT "int" (.tuple ds) = false := by simp [isT, tyName]
theorem isT_int_dict {kv : List (PyData × PyData)} : isT "int" (.dict kv) = false := by simp [isT, tyName]
theorem isT_bool_none  : isT "bool" .none = false := by simp [isT, tyName]
theorem isT_bool_bool {x : Bool} : isT "bool" (.bool x) = true := by simp [isT, tyName]
theorem isT_bool_int {i : Int} : isT "bool" (.int i) = false := by simp [isT, tyName]
theorem isT_bool_str {z : Str} : isT "bool" (.str z) = false := by simp [isT, tyName]
theorem isT_bool_list {ds : List PyData} : isT "bool" (.list ds) = false := by simp [isT, tyName]
theorem isT_bool_tuple {ds : List PyData} : isT "bool" (.tuple ds) = false := by simp [isT, tyName]
theorem isT_bool_dict {kv : List (PyData × PyData)} : isT "bool" (.dict kv) = false := by simp [isT, tyName]
theorem isT_str_none  : isT "str" .none = false := by simp [isT, tyName]
theorem isT_str_bool {x : Bool} : isT "str" (.bool x) = false := by simp [isT, tyName]
theorem isT_str_int {i : Int} : isT "str" (.int i) = false := by simp [isT, tyName]
theorem isT_str_str {z : Str} : isT "str" (.str z) = true := by simp [isT, tyName]
theorem isT_str_list {ds : List PyData} : isT "str" (.list ds) = false := by simp [isT, tyName]
theorem isT_str_tuple {ds : List PyData} : isT "str" (.tuple ds) = false := by simp [isT, tyName]
theorem isT_str_dict {kv : List (PyData × PyData)} : isT "str" (.dict kv) = false := by simp [isT, tyName]
theorem isT_list_none  : isT "list" .none = false := by simp [isT, tyName]
theorem isT_list_bool {x : Bool} : isT "list" (.bool x) = false := by simp [isT, tyName]
theorem isT_list_int {i : Int} : isT "list" (.int i) = false := by simp [isT, tyName]
theorem isT_list_str {z : Str} : isT "list" (.str z) = false := by simp [isT, tyName]
theorem isT_list_list {ds : List PyData} : isT "list" (.list ds) = true := by simp [isT, tyName]
theorem isT_list_tuple {ds : List PyData} : isT "list" (.tuple ds) = false := by simp [isT, tyName]
theorem isT_list_dict {kv : List (PyData × PyData)} : isT "list" (.dict kv) = false := by simp [isT, tyName]
theorem isT_tuple_none  : isT "tuple" .none = false := by simp [isT, tyName]
theorem isT_tuple_bool {x : Bool} : isT "tuple" (.bool x) = false := by simp [isT, tyName]
theorem isT_tuple_int {i : Int} : isT "tuple" (.int i) = false := by simp [isT, tyName]
theorem isT_tuple_str {z : Str} : isT "tuple" (.str z) = false := by simp [isT, tyName]
theorem isT_tuple_list {ds : List PyData} : isT "tuple" (.list ds) = false := by simp [isT, tyName]
theorem isT_tuple_tuple {ds : List PyData} : isT "tuple" (.tuple ds) = true := by simp [isT, tyName]
theorem isT_tuple_dict {kv : List (PyData × PyData)} : isT "tuple" (.dict kv) = false := by simp [isT, tyName]
/-! ### slices -/
def slM (s : SV) (lo hi : Option Int) (Q : SV → Prop) : Prop := (∃ ds, s.asL = some ds ∧ Q (.own (VL.cutD ds lo hi))) ∨ (∃ ds, s.asT = some ds ∧ Q (.v (.tuple (VL.cutD ds lo hi)))) ∨ ∃ z : Str, s = .v (.str z) ∧ z.length ≤ sizeLine ∧ Q (.v (.str (cutS z lo hi)))
theorem m_slM {t : TV} {tl th : TVo} {ρ : VL.Env} {Q : SV → Prop} : vSl t tl th ρ Q = t ρ fun s => tl ρ fun lo => th ρ fun hi => slM s lo hi Q := (Eq.refl _).trans (Eq.refl _)
theorem slM_str {z : Str} {lo hi : Option Int} {Q : SV → Prop} : slM (.v (.str z)) lo hi Q = (z.length ≤ sizeLine ∧ Q (.v (.str (cutS z lo hi)))) := by simp [slM, SV.asL, SV.asT]
theorem slM_tup {ds : List PyData} {lo hi : Option Int} {Q : SV → Prop} : slM (.v (.tuple ds)) lo hi Q = Q (.v (.tuple (VL.cutD ds lo hi))) := by simp [slM, SV.asL, SV.asT]
theorem slM_lst {ds : List PyData} {lo hi : Option Int} {Q : SV → Prop} : slM (.v (.list ds)) lo hi Q = Q (.own (VL.cutD ds lo hi)) := by simp [slM, SV.asL, SV.asT]
theorem slM_own {ds : List PyData} {lo hi : Option Int} {Q : SV → Prop} : slM (.own ds) lo hi Q = Q (.own (VL.cutD ds lo hi)) := by simp [slM, SV.asL, SV.asT]
theorem slM_brw {ds : List PyData} {lo hi : Option Int} {Q : SV → Prop} : slM (.brw ds) lo hi Q = Q (.own (VL.cutD ds lo hi)) := by simp [slM, SV.asL, SV.asT]
end VL
namespace VL
open PySem PySem.Spec PyProof.Rows L2 VG
/-! ### [e for a in xs for b in ys] -/
def bare (ρ : VL.Env) : VL.Env := ρ.map fun s => match s with
  | .ow _ _ => .un
  | s => s
theorem bare_some {ρ : VL.Env} {i : Nat} {s : SV} (h : (bare ρ)[i]? = some s) (hs : s ≠ .un) : ρ[i]? = some s ∧ ∀ c ds, s ≠ .ow c ds := by
  unfold bare at h
  rw [List.getElem?_map] at h
  rcases e : ρ[i]? with _ | t
  · rw [e] at h; cases h
  · rw [e] at h
    cases t <;> simp at h <;> subst h <;> first | exact absurd rfl hs | exact ⟨rfl, fun _ _ z => nomatch z⟩
def canI (w : Bool) (K : PySem.W.Frag) (it : TVl) (κ : Nat) : TI := fun σ H R => ∃ B F ρ, ∃ Q : List PyData → Prop, ER K B F H σ ρ ∧ F.ck + κ ≤ LIM ∧ it ρ Q ∧ ∀ ds J (F' : FS) H', F'.ck ≤ F.ck + κ → Q ds → Ext ρ F H F' H' → Wk w J K ds F' H' → R J H'
theorem VI.can {w : Bool} {κ1 : Nat} {X : Cx} {tg iter : Expr} {it : TVl} (h : VI w X tg iter it κ1) : PI X tg iter (canI w X.K it κ1) := by
  obtain ⟨wi, pi, g⟩ := h
  exact ⟨fun pins s σ H R I ⟨B, F, ρ, Q, er, bq, ht, k⟩ => pi.run pins s σ H R I (g B F H σ ρ Q R er bq ht k)⟩
section
variable {K : PySem.W.Frag} {B : Bas} {F F' F1 F2 : FS} {H H' H1 H2 : Hp} {σ : Hs} {ρ ρ' : VL.Env}
theorem csub_bare : CSub (bare ρ) ρ := fun i a ns e => ⟨i, (bare_some e (fun z => nomatch z)).1⟩
theorem ER.bare (er : ER K B F H σ ρ) : ER K B F H σ (VL.bare ρ) where
  len := by unfold VL.bare; rw [List.length_map]; exact er.len
  sl := fun i s h hn => er.sl i s (bare_some h hn).1 hn
  nb := fun i c ds h => er.nb i c ds (bare_some h (fun z => nomatch z)).1
  ow := fun i j c c' ds es p h1 h2 h3 h4 => absurd rfl ((bare_some h1 (fun z => nomatch z)).2 c ds)
  fr := fun i c ds p h1 h2 => absurd rfl ((bare_some h1 (fun z => nomatch z)).2 c ds)
  cf := fun a c => er.cf a (csub_cells csub_bare c)
  bs := er.bs
  kb := er.kb
  pin := er.pin
  dm := er.dm
/-- a list that no slot has changes -/
theorem ER.mutD (er : ER K B F H σ ρ) (no : ∀ (i : Nat) (c : CT) (ds : List PyData), ρ[i]? ≠ some (.ow c ds)) {D : Addr} {us vs : List V} (hD : H D = some (.lst us)) (nf : ¬ F D) (h0 : B.H0 D = none) (nc : ¬ cellsOf ρ D) : ER K B F (upd H D (.lst vs)) σ ρ := by
  have n2 : ∀ {a : Addr}, cellsOf ρ a → a ≠ D := fun {a} c z => nc (by rw [← z]; exact c)
  have m : FM F F H (upd H D (.lst vs)) := FM.write (c := .lst) (c' := .lst) hD nf
  refine ⟨er.len, fun i s h hn => ?_, er.nb, er.ow, er.fr, er.cf, er.bs.mut h0, fun a ns h => ?_, fun a o h => ?_, fun a f => ?_⟩
  · obtain ⟨u, h1, h2⟩ := er.sl i s h hn
    refine ⟨u, h1, ?_⟩
    cases s with
    | un => trivial
    | v d => exact Rp.mono m h2
    | ow c ds => exact absurd h (no i c ds)
    | bw c ds => exact absurd h (er.nb i c ds)
    | fz ks ds =>
      obtain ⟨p, ws, rfl, f, e1, r⟩ := h2
      exact ⟨p, ws, rfl, m.fr _ f, m.fk _ _ f e1, Rp.mono m r⟩
    | cell a ns => exact ⟨h2.1, h2.2.mut (n2 ⟨i, ns, h⟩) nf⟩
    | scr ns =>
      obtain ⟨a, rfl, q⟩ := h2
      exact ⟨a, rfl, q.keep m⟩
    | dct kvs =>
      obtain ⟨p, ws, rfl, f, k, r⟩ := h2
      exact ⟨p, ws, rfl, f.mono m, k, Rp.mono m r⟩
    | fns kvs =>
      obtain ⟨p, rfl, f, e1⟩ := h2
      exact ⟨p, rfl, m.fr _ f, m.fk _ _ f e1⟩
  · exact ⟨(er.kb a ns h).1.mut (fun z => (er.kb a ns h).2 (by rw [z]; exact h0)) nf, (er.kb a ns h).2⟩
  · obtain ⟨h1, h2⟩ := er.pin a o h
    have n1 : a ≠ D := fun z => by
      rw [z, hD] at h1
      have e := Option.some.inj h1
      rcases h2 with f | ⟨xs, e2⟩ | ⟨ob, u, e2⟩
      · exact nf (z ▸ f)
      · rw [← e] at e2; cases e2
      · rw [← e] at e2; cases e2
    exact ⟨by rw [upd_ne n1]; exact h1, h2⟩
  · obtain ⟨o, e, l⟩ := er.dm a f
    exact ⟨o, m.fk _ _ f e, l⟩
end
def cLoop2 (g : TGt) (c : TVb) (it1 : TVl) (g1 : TGt) (c1 : TVb) (t : TV) (vs1 : List Nat) (w : VL.Env) : List PyData → List PyData → (List PyData → Prop) → Prop
  | [], acc, Q => Q acc
  | d :: ds, acc, Q => g d w fun ρ' => c ρ' fun b => if b = true then it1 ρ' fun ds1 => cLoop g1 c1 t (wipeV (bare ρ') vs1) ds1 acc fun acc' => cLoop2 g c it1 g1 c1 t vs1 w ds acc' Q else cLoop2 g c it1 g1 c1 t vs1 w ds acc Q
def vLc2 (it : TVl) (g : TGt) (c : TVb) (it1 : TVl) (g1 : TGt) (c1 : TVb) (t : TV) (vs vs1 : List Nat) : TV := fun ρ Q => it ρ fun ds => cLoop2 g c it1 g1 c1 t vs1 (wipeV ρ vs) ds [] fun acc => Q (.own acc)
theorem wipe_wipe (σ : Hs) (vs' : List Nat) : wipe (wipe σ vs') vs' = wipe σ vs' := by
  apply List.ext_getElem?
  intro j
  by_cases hj : j ∈ vs'
  · have no : ∀ τ : Hs, (wipe τ vs')[j]? = (if j < τ.length then some none else none) := fun τ => by
      by_cases hl : j < τ.length
      · rcases e1 : (wipe τ vs')[j]? with _ | o
        · rw [List.getElem?_eq_none_iff, wipe_length] at e1; omega
        · cases o with
          | none => simp [hl]
          | some v => exact absurd hj (wipe_some e1).2
      · rw [List.getElem?_eq_none_iff.mpr (by rw [wipe_length]; omega)]; simp [hl]
    rw [no, no, wipe_length]
  · rw [wipe_out hj]
section
variable {X : Cx} {scope : Scope} {tg iter tg1 iter1 elt e : Expr} {ifs ifs1 : List Expr} {is is1 vs vs1 : List Nat} {it it1 : TVl} {g g1 : TGt} {c c1 : TVb} {t : TV}
theorem lc2_go {w w1 : Bool} {κ1 : Nat} (hi : VI w X tg iter it κ1) (his : ∀ i ∈ is, i ∈ vs) (his1 : ∀ i ∈ is1, i ∈ vs1) :
    ∃ wi, PI X tg iter wi ∧ RE X (vLc2 it g c it1 g1 c1 t vs vs1) κ1 (tLc2 wi (canG w X.K is g) (canT X.K c 0) (canI w1 X.K it1 0) (canG w1 X.K is1 g1) (canT X.K c1 0) (canE X.K t 0) vs vs1) := by
  obtain ⟨wi, pi, gi⟩ := hi
  refine ⟨wi, pi, fun B F H σ ρ Q R er bq q k => ?_⟩
  refine gi B F H σ ρ _ _ er (by omega) q fun ds J F1 H1 cq q1 x wk D hD => ?_
  have hD0 : H D = none := by
    by_cases z : H D = none
    · exact z
    · exact absurd hD (x.st.ex D z)
  have er1 := er.step x
  have hB0 : B.H0 D = none := by
    by_cases z : B.H0 D = none
    · exact z
    · exact absurd hD0 (er.bs.ex D z)
  have nf1 : ¬ F1 D := fun z => by
    obtain ⟨xs, e, _⟩ := x.dm D z
    rw [hD] at e; cases e
  have keepD : ∀ {F4 : FS} {H4 : Hp} {F5 : FS} {H5 : Hp} {ρ4 : VL.Env} {ws : List V} {zs : List PyData}, Ext ρ4 F4 H4 F5 H5 → CSub ρ4 ρ → H4 D = some (.lst ws) → ¬ F4 D → RA X.K F4 H4 ws zs → H5 D = some (.lst ws) ∧ ¬ F5 D ∧ RA X.K F5 H5 ws zs := by
    intro F4 H4 F5 H5 ρ4 ws zs x4 cs e4 n4 r4
    refine ⟨x4.st.kp _ _ e4 fun c => x.cp D (csub_cells cs c) hD0, fun z => (x4.st.nw D z).elim n4 fun z => ?_, Rp.mono x4.st.toFM r4⟩
    rw [z] at e4; cases e4
  refine ⟨fun i m H' => m = ds.length - i ∧ i ≤ ds.length ∧ ∃ (F' : FS) (us : List V) (acc : List PyData), F'.ck ≤ F1.ck ∧ Ext ρ F1 H1 F' H' ∧ H' D = some (.lst us) ∧ ¬ F' D ∧ RA X.K F' H' us acc ∧ cLoop2 g c it1 g1 c1 t vs1 (wipeV ρ vs) (ds.drop i) acc (fun acc => Q (.own acc)),
    ⟨_, rfl, Nat.zero_le _, F1, [], [], Nat.le_refl _, er1.refl.pure (Stp.new hD) (x.dm.new hD), upd_same, nf1, .nil, q1⟩, ?_⟩
  rintro i m H' ⟨rfl, hi, F', us, acc, ce, x', hD', nf', ra, q'⟩
  have fm : FM F1 F' H1 H' := x'.st.toFM
  by_cases hlt : i < ds.length
  · refine .inr ⟨wk.go i F' H' fm x'.dm hlt, fun H3 => ∃ (F3 : FS) (us : List V) (acc : List PyData), F3.ck ≤ F1.ck ∧ Ext ρ F1 H1 F3 H3 ∧ H3 D = some (.lst us) ∧ ¬ F3 D ∧ RA X.K F3 H3 us acc ∧ cLoop2 g c it1 g1 c1 t vs1 (wipeV ρ vs) (ds.drop (i + 1)) acc (fun acc => Q (.own acc)),
      fun H3 z => ⟨ds.length - (i + 1), by omega, rfl, hlt, z⟩, fun y H2 hy => ?_⟩
    have hd : ds[i]? = some (ds[i]'hlt) := List.getElem?_eq_getElem hlt
    obtain ⟨F2, c2, st, dm, r⟩ := wk.yld i F' H' y H2 _ fm x'.dm hd hy
    have x2 : Ext ρ F1 H1 F2 H2 := x'.pure st dm
    have hD2 : H2 D = some (.lst us) := st.kp _ _ hD' (fun z => z)
    have nf2 : ¬ F2 D := fun z => (st.nw D z).elim nf' fun z => by rw [z] at hD'; cases hD'
    have ra2 : RA X.K F2 H2 us acc := Rp.mono st.toFM ra
    rw [List.drop_eq_getElem_cons hlt] at q'
    have erw := (er1.step x2).wipe vs
    refine ⟨B, F2, wipeV ρ vs, _, _, erw, r, q', fun σ3 ρ3 er3 w3 q3 => ⟨?_, ?_⟩⟩
    · have w4 := w3.1 vs his
      rw [w4, wipe_wipe]
    · refine ⟨B, F2, ρ3, _, er3, by omega, q3, fun b F4 H4 c4 q4 x4 => ?_⟩
      have cs3 : CSub ρ3 ρ := w3.2.trans csub_wipe
      obtain ⟨d4, n4, r4⟩ := keepD x4 cs3 hD2 nf2 ra2
      have x4' := x2.sub x4 cs3
      cases b with
      | false => exact ⟨F4, us, acc, by omega, x4', d4, n4, r4, q4⟩
      | true =>
        refine ⟨B, F4, ρ3, _, er3.step x4, by omega, q4, fun ds1 J1 F5 H5 c5 q5 x5 wk1 => ?_⟩
        obtain ⟨d5, n5, r5⟩ := keepD x5 cs3 d4 n4 r4
        have x5' := x4'.sub x5 cs3
        have er5 := ((er3.step x4).step x5).bare
        have csb : CSub (bare ρ3) ρ := csub_bare.trans cs3
        have nob : ∀ (i : Nat) (c : CT) (ds : List PyData), (bare ρ3)[i]? ≠ some (.ow c ds) := fun i c ds z => (bare_some z (fun z => nomatch z)).2 c ds rfl
        refine ⟨fun j k' H6 => k' = ds1.length - j ∧ j ≤ ds1.length ∧ ∃ (F6 : FS) (us : List V) (acc : List PyData), F6.ck ≤ F1.ck ∧ Ext ρ F1 H1 F6 H6 ∧ FM F5 F6 H5 H6 ∧ ER X.K B F6 H6 σ3 (bare ρ3) ∧ H6 D = some (.lst us) ∧ ¬ F6 D ∧ RA X.K F6 H6 us acc ∧ cLoop g1 c1 t (wipeV (bare ρ3) vs1) (ds1.drop j) acc (fun acc' => cLoop2 g c it1 g1 c1 t vs1 (wipeV ρ vs) (ds.drop (i + 1)) acc' (fun acc => Q (.own acc))),
          ⟨_, rfl, Nat.zero_le _, F5, us, acc, by omega, x5', FM.refl, er5, d5, n5, r5, q5⟩, ?_⟩
        rintro j k' H6 ⟨rfl, hj, F6, us6, acc6, c6, x6, fm6, er6, d6, n6, r6, q6⟩
        by_cases hlt1 : j < ds1.length
        · refine .inr ⟨wk1.go j F6 H6 fm6 x6.dm hlt1, fun H7 => ∃ (F7 : FS) (us : List V) (acc : List PyData), F7.ck ≤ F1.ck ∧ Ext ρ F1 H1 F7 H7 ∧ FM F5 F7 H5 H7 ∧ ER X.K B F7 H7 σ3 (bare ρ3) ∧ H7 D = some (.lst us) ∧ ¬ F7 D ∧ RA X.K F7 H7 us acc ∧ cLoop g1 c1 t (wipeV (bare ρ3) vs1) (ds1.drop (j + 1)) acc (fun acc' => cLoop2 g c it1 g1 c1 t vs1 (wipeV ρ vs) (ds.drop (i + 1)) acc' (fun acc => Q (.own acc))),
            fun H7 z => ⟨ds1.length - (j + 1), by omega, rfl, hlt1, z⟩, fun y1 H7 hy1 => ?_⟩
          have hd1 : ds1[j]? = some (ds1[j]'hlt1) := List.getElem?_eq_getElem hlt1
          obtain ⟨F7, c7, st7, dm7, ry⟩ := wk1.yld j F6 H6 y1 H7 _ fm6 x6.dm hd1 hy1
          have x7 : Ext ρ F1 H1 F7 H7 := x6.pure st7 dm7
          have xb : Ext (bare ρ3) F6 H6 F7 H7 := er6.refl.pure st7 dm7
          have d7 : H7 D = some (.lst us6) := st7.kp _ _ d6 (fun z => z)
          have n7 : ¬ F7 D := fun z => (st7.nw D z).elim n6 fun z => by rw [z] at d6; cases d6
          have r7 : RA X.K F7 H7 us6 acc6 := Rp.mono st7.toFM r6
          have fm7 : FM F5 F7 H5 H7 := fm6.trans st7.toFM
          rw [List.drop_eq_getElem_cons hlt1] at q6
          have er7 := er6.step xb
          refine ⟨B, F7, wipeV (bare ρ3) vs1, _, _, er7.wipe vs1, ry, q6, fun σ8 ρ8 er8 w8 q8 => ⟨?_, ?_⟩⟩
          · rw [w8.1 vs1 his1, wipe_wipe]
          · have cs8 : CSub ρ8 (bare ρ3) := w8.2.trans csub_wipe
            refine ⟨B, F7, ρ8, _, er8, by omega, q8, fun b F9 H9 c9 q9 x9 => ?_⟩
            obtain ⟨d9, n9, r9⟩ := keepD x9 (cs8.trans csb) d7 n7 r7
            have x9' := x7.sub x9 (cs8.trans csb)
            have xb9 : Ext (bare ρ3) F6 H6 F9 H9 := xb.sub x9 cs8
            cases b with
            | false => exact ⟨F9, us6, acc6, by omega, x9', fm7.trans x9.st.toFM, er6.step xb9, d9, n9, r9, q9⟩
            | true =>
              refine ⟨B, F9, ρ8, _, er8.step x9, by omega, q9, fun s u FA HA cA ⟨z, ez, hz, qz⟩ xA => ?_⟩
              obtain ⟨FC, cC, xC, rC⟩ := data_all (us := [u]) (ss := [s]) xA.toExt ⟨xA.sr, xA.fo, trivial⟩ ez
              obtain ⟨dC, nC, rD⟩ := keepD xC (cs8.trans csb) d9 n9 r9
              have xE := x9'.sub xC (cs8.trans csb)
              have xbE : Ext (bare ρ3) F6 H6 FC HA := xb9.sub xC cs8
              have mW := FM.write (c := .lst) (c' := .lst) (vs := us6 ++ [u]) dC nC
              refine ⟨us6, dC, ?_, FC, us6 ++ [u], acc6 ++ [z], by omega, ⟨xE.st.mut hD, ?_, fun j a ns ej => (xE.cl j a ns ej).mut (fun z => xE.cp a ⟨j, ns, ej⟩ (by rw [z]; exact hD)) nC, xE.cp⟩, ((fm7.trans x9.st.toFM).trans xC.st.toFM).trans mW, (er6.step xbE).mutD nob dC nC hB0 (fun c => xE.cp D (csub_cells csb c) hD), upd_same, nC, ?_, qz⟩
              · rw [rD.len]; exact Nat.lt_of_lt_of_le hz (by decide)
              · intro a f
                obtain ⟨ws, e, l⟩ := xE.dm a f
                exact ⟨ws, by rw [upd_ne (fun z => nC (by rw [← z]; exact f))]; exact e, l⟩
              · exact RA.append (Rp.mono mW rD) (Rp.mono mW rC)
        · have e : j = ds1.length := by omega
          subst e
          rw [List.drop_length] at q6
          exact .inl ⟨wk1.stop F6 H6 fm6 x6.dm, F6, us6, acc6, c6, x6, d6, n6, r6, q6⟩
  · have e : i = ds.length := by omega
    subst e
    rw [List.drop_length] at q'
    refine .inl ⟨wk.stop F' H' fm x'.dm, k _ _ F' H' (by omega) q' ⟨x.trans x', ⟨D, us, rfl, hD', nf', ra⟩, fun p e => ?_⟩⟩
    cases e
    exact hD0
theorem ve_lc2 {w w1 : Bool} {κ1 κ2 κ3 κ4 κ5 : Nat} (h : ∀ wi gt tt wi1 gt1 tt1 te, PI X tg iter wi → Bk X scope (PG · tg gt) → Bk X scope (PTs · ifs tt) → Bk X scope (PI · tg1 iter1 wi1) → Bk X scope (PG · tg1 gt1) → Bk X scope (PTs · ifs1 tt1) → Bk X scope (PE · elt te) → PE X e (tLc2 wi gt tt wi1 gt1 tt1 te vs vs1))
    (hi : VI w X tg iter it κ1) (hg : Bk X scope (VTg w · is tg g)) (hc : Bk X scope (VTs · ifs c κ2)) (hi1 : Bk X scope (VI w1 · tg1 iter1 it1 κ3)) (hg1 : Bk X scope (VTg w1 · is1 tg1 g1)) (hc1 : Bk X scope (VTs · ifs1 c1 κ4)) (he : Bk X scope (VE · elt t κ5))
    (his : ∀ i ∈ is, i ∈ vs) (his1 : ∀ i ∈ is1, i ∈ vs1) (h0 : κ2 + κ3 + κ4 + κ5 = 0 := by omega) : VE X e (vLc2 it g c it1 g1 c1 t vs vs1) κ1 := by
  obtain ⟨rfl, rfl, rfl, rfl⟩ : κ2 = 0 ∧ κ3 = 0 ∧ κ4 = 0 ∧ κ5 = 0 := ⟨by omega, by omega, by omega, by omega⟩
  obtain ⟨wi, pi, gi⟩ := lc2_go (g := g) (c := c) (it1 := it1) (g1 := g1) (c1 := c1) (t := t) hi his his1
  exact ⟨_, h wi (canG w X.K is g) (canT X.K c 0) (canI w1 X.K it1 0) (canG w1 X.K is1 g1) (canT X.K c1 0) (canE X.K t 0) pi (fun s H C cl fp => (hg s H C cl fp).can) (fun s H C cl fp => (hc s H C cl fp).can) (fun s H C cl fp => (hi1 s H C cl fp).can) (fun s H C cl fp => (hg1 s H C cl fp).can) (fun s H C cl fp => (hc1 s H C cl fp).can) (fun s H C cl fp => (he s H C cl fp).can), gi⟩
end
/-! ### dicts that stay -/
def keyOf : PyData → Option L2.Key
  | .int i => some (.inl i)
  | .str x => some (.inr x)
  | _ => none
def dFind (kvs : List (L2.Key × PyData)) (k : L2.Key) : Option PyData := (kvs.find? fun kv => decide (kv.1 = k)).map (·.2)
theorem mergeK_nodup : ∀ (kvs acc : List (L2.Key × V)), ((acc ++ kvs).map (·.1)).Nodup → mergeK acc kvs = acc ++ kvs
  | [], acc, _ => (List.append_nil acc).symm
  | (k, v) :: r, acc, h => by
    have hk : (acc.any fun kv => decide (kv.1 = k)) = false := by
      rw [List.any_eq_false]
      intro p hp e
      have e := of_decide_eq_true e
      rw [List.map_append, List.nodup_append] at h
      exact h.2.2 p.1 (List.mem_map.mpr ⟨p, hp, rfl⟩) k (by simp) e
    show mergeK (putK acc k v) r = acc ++ (k, v) :: r
    have e : putK acc k v = acc ++ [(k, v)] := by
      unfold putK
      rw [hk]; rfl
    rw [e, mergeK_nodup r (acc ++ [(k, v)]) (by rw [List.append_assoc]; exact h), List.append_assoc]; rfl
section
variable {K : PySem.W.Frag} {F : FS} {H : Hp}
theorem dct_find : ∀ {us : List (L2.Key × V)} {kvs : List (L2.Key × PyData)}, us.map (·.1) = kvs.map (·.1) → RA K F H (us.map (·.2)) (kvs.map (·.2)) → ∀ k, (dFind kvs k = none ∧ valV us k = none) ∨ ∃ v d, dFind kvs k = some d ∧ valV us k = some v ∧ R1 K F H v d
  | [], [], _, _, _ => .inl ⟨rfl, rfl⟩
  | [], _ :: _, e, _, _ => by cases e
  | _ :: _, [], e, _, _ => by cases e
  | (k1, v) :: us, (k2, d) :: kvs, e, r, k => by
    simp only [List.map_cons, List.cons.injEq] at e
    obtain ⟨rfl, e⟩ := e
    obtain ⟨r1, r2⟩ := RA.uncons (by simpa only [List.map_cons] using r)
    by_cases z : k1 = k
    · subst z
      exact .inr ⟨v, d, by simp [dFind], by simp [valV], r1⟩
    · have h1 : dFind ((k1, d) :: kvs) k = dFind kvs k := by simp [dFind, z]
      have h2 : valV ((k1, v) :: us) k = valV us k := by simp [valV, z]
      rw [h1, h2]
      exact dct_find e r2 k
theorem key_of {u : V} {d : PyData} {k : L2.Key} (h : SlotR K F H u (.v d)) (e : keyOf d = some k) : u = kV k := by
  cases d with
  | int i => cases e; exact int_of h
  | str x => cases e; exact str_of h
  | _ => cases e
theorem pairs_of : ∀ {us : List V} {kvs : List (L2.Key × PyData)}, RA K F H us (kvs.map fun kv => .tuple [kD kv.1, kv.2]) →
    ∃ (ps : List Addr) (ws : List (L2.Key × V)), us = ps.map V.ref ∧ Paired (fun p kv => SqT K H p [kV kv.1, kv.2]) ps ws ∧ ws.map (·.1) = kvs.map (·.1) ∧ RA K F H (ws.map (·.2)) (kvs.map (·.2))
  | [], [], _ => ⟨[], [], rfl, .nil, rfl, .nil⟩
  | [], _ :: _, h => by cases h
  | _ :: _, [], h => by cases h
  | u :: us, (k, d) :: kvs, h => by
    obtain ⟨r1, r2⟩ := RA.uncons (by simpa only [List.map_cons] using h)
    obtain ⟨ps, ws, e, p, e2, r⟩ := pairs_of r2
    cases r1 with
    | tup sq rr =>
      rename_i a xs
      obtain ⟨x, y, e3, a1, a2⟩ : ∃ x y, xs = [x, y] ∧ R1 K F H x (kD k) ∧ R1 K F H y d := by
        cases rr with
        | cons b1 b2 =>
          cases b2 with
          | cons c1 c2 =>
            cases c2
            exact ⟨_, _, rfl, b1, c1⟩
      subst e3
      have ex : x = kV k := by
        cases k with
        | inl i => exact int_of a1
        | inr z => exact str_of a1
      subst ex
      exact ⟨a :: ps, (k, y) :: ws, by rw [e]; rfl, .cons sq.t p, by simp only [List.map_cons, e2], .cons a2 r⟩
theorem PRes.newD {p : Addr} {us : List (L2.Key × V)} {kvs : List (L2.Key × PyData)} (d : FOk F H) (hp : H p = none) (e : us.map (·.1) = kvs.map (·.1)) (r : RA K F H (us.map (·.2)) (kvs.map (·.2))) : PRes K F H (F.or (fun x => x = p)) (upd H p (.dK us)) (.dct kvs) (.ref p) := by
  have st := (Stp.new (M := fun _ => False) (F := F) (o := .dK us) hp)
  refine ⟨Nat.le_refl _, st.frz fun x z => by subst z; exact hp, fun a z => ?_, ⟨p, us, rfl, .inl ⟨.inr rfl, upd_same⟩, e, Rp.mono (st.toFM.trans FM.grow) r⟩, trivial⟩
  rcases z with z | rfl
  · exact d.new hp a z
  · exact ⟨_, upd_same, .dct⟩
abbrev rDictQ (K : PySem.W.Frag) : List V → Hp → L2.VK → Prop := fun xs H Q => ∃ (a : Addr) (ps : List Addr) (kvs : List (L2.Key × V)), xs = [.ref a] ∧ (SqL K H a (ps.map V.ref) ∨ SqN K H a (ps.map V.ref)) ∧ Paired (fun p kv => SqT K H p [kV kv.1, kv.2]) ps kvs ∧ ∀ p, H p = none → Q (.ref p) (upd H p (.dK (mergeK [] kvs)))
theorem pairs_ofN {X : Cx} {pins : List (Addr × Obj)} {σ : L2.St} {H : Hp} {s : Shared} (J : Inv X pins σ H s) : ∀ {ps : List Addr} {kvs : List (L2.Key × V)}, Paired (fun p kv => SqT X.K H p [kV kv.1, kv.2]) ps kvs →
    ∃ (prs : List (L2.Key × Value)) (pz : List (Value × Value)), KV kvs prs ∧ prs.length = ps.length ∧ pz.length = ps.length ∧
      ∀ (j : Nat) (k v : Value), pz[j]? = some (k, v) → (∃ b, ps[j]? = some b ∧ IsTup s.heap b #[k, v]) ∧ ∃ q, prs[j]? = some (q, v) ∧ keyIs q k = true
  | _, _, .nil => ⟨[], [], .nil, rfl, rfl, fun j k v e => by simp at e⟩
  | _, _, .cons (a := p) (b := kv) h t => by
    obtain ⟨prs, pz, r, l1, l2, hp⟩ := pairs_ofN J t
    obtain ⟨vz, rv, ht, _⟩ := J.tuple h
    obtain ⟨u, y, e, ru, ry⟩ := vals2 rv
    subst e
    refine ⟨(kv.1, y) :: prs, (u, y) :: pz, .cons ⟨rfl, ry⟩ r, by rw [List.length_cons, l1]; rfl, by rw [List.length_cons, l2]; rfl, fun j k v e => ?_⟩
    rcases j with _ | j
    · have e := Option.some.inj (show some (u, y) = some (k, v) from e)
      injection e with e1 e2
      subst e1 e2
      exact ⟨⟨p, rfl, ht⟩, kv.1, rfl, kV_is (P := X.prog) (w := X.w) ru⟩
    · exact hp j k v (by simpa using e)
/-- dict(pairs): a list or a tuple -/
theorem call_dictQ {X : Cx} (hcalm : X.calm = true) : CallR X (.type "dict") (rDictQ X.K) := by
  intro pins s σ H xs us Q J r h
  obtain ⟨a, ps, kvs, ex, hq | hq, hp, q⟩ := h
  · exact call_dictP hcalm pins s σ H xs us Q J r ⟨a, ps, kvs, ex, hq, hp, q⟩
  subst ex
  obtain ⟨u, eu, rx⟩ := vals1 r
  subst eu
  cases rx
  obtain ⟨o, ho, hcl, hdn⟩ := hq.free J
  obtain ⟨vz, rv, ⟨o', ho', _, n, hd⟩, hz⟩ := J.tuple hq.t
  rw [ho] at ho'
  cases ho'
  have ei := refs_at rv
  subst ei
  rw [List.length_map] at hz
  obtain ⟨prs, pz, rel, l1, l2, hpr⟩ := pairs_ofN J hp
  have ok : PlainSeq "tuple" s.heap a (ps.map Value.ref).toArray ∧ PairItems s.heap (ps.map Value.ref).toArray (fun j => ps.getD j 0) pz :=
    ⟨⟨o, n, ho, hcl, hdn, hd⟩, by simp [l2], fun j k v e => by
      obtain ⟨⟨b, e1, tb⟩, _⟩ := hpr j k v e
      have eb : ps.getD j 0 = b := by rw [List.getD_eq_getElem?_getD, e1]; rfl
      refine ⟨?_, .inl ?_⟩
      · show _ = some (Value.ref (ps.getD j 0))
        rw [eb]; simp [e1]
      · show s.heap.IsTuple (ps.getD j 0) _
        rw [eb]; exact tb⟩
  refine PySem.call_dict_pairs (knd := mixKind X.prog X.w) (kvs := prs) (PairArg.tuple a _ _ pz) (J.ok.hd hcalm) ok ⟨l1.trans l2.symm, fun i k v e => ?_⟩ (by rw [l2]; exact hz) fun h' tk hd' kp => ?_
  · obtain ⟨_, w, e1, e2⟩ := hpr i k v e
    exact ⟨w, e1, e2⟩
  · have nm : (s.heap.objs.size == sysModules) = false := beq_eq_false_iff_ne.mpr (Nat.ne_of_gt J.big)
    have few : (mergeK [] kvs).length ≤ sizeLine := by
      have := length_mergeK kvs []
      rw [List.length_nil, Nat.zero_add, rel.length, l1] at this
      omega
    exact ⟨.ref s.heap.objs.size, upd H s.heap.objs.size (.dK (mergeK [] kvs)), J.laid (t' := tk) (fun b ob e => kp b ob (by simp) e) (Nat.le_refl _) (show ObjOk X.prog X.w _ _ _ (.dK (mergeK [] kvs)) from ⟨few, nm, merged [] prs, KV.merge rel .nil, hd'⟩), rfl, q _ (J.hok.fresh (Nat.le_refl _))⟩
/-- dict(pairs) -/
def fDictP : FC := fun ss Q => ∃ (s : SV) (kvs : List (L2.Key × PyData)), ss = [s] ∧ s.asQ = some (kvs.map fun kv => .tuple [kD kv.1, kv.2]) ∧ (kvs.map (·.1)).Nodup ∧ Q (.dct kvs)
theorem cs_dictP : CallS K (rDictQ K) fDictP := by
  intro F H us ss Q R fo al ⟨s, kvs, e, e1, nd, q⟩ k
  subst e
  obtain ⟨u, rfl, h⟩ := ah1 al
  obtain ⟨a, xs, rfl, sq, r⟩ := asQ_sq h e1
  obtain ⟨ps, ws, ex, pr, ek, rr⟩ := pairs_of r
  subst ex
  have em : mergeK [] ws = ws := mergeK_nodup ws [] (by rw [List.nil_append, ek]; exact nd)
  refine ⟨a, ps, ws, rfl, sq, pr, fun p hp => ?_⟩
  rw [em]
  exact k _ _ _ _ q (fun _ _ z => nomatch z) (.newD fo hp ek rr)
abbrev rDGet : R2 := fun x y H Q => ∃ a v, x = .ref a ∧ DGet H a y (some v) ∧ Q v H
/-- d[k] -/
def fDGet : FB := fun a b Q => ∃ kvs d k v, a = .dct kvs ∧ b = .v d ∧ keyOf d = some k ∧ dFind kvs k = some v ∧ Q (.v v)
theorem ops_dget : OpS K rDGet fDGet := by
  intro F H u w a b Q R fo ra rb ⟨kvs, d, k, v, e1, e2, ek, ev, q⟩ kk
  subst e1 e2
  obtain ⟨p, us, rfl, hp, em, r⟩ := ra
  have hp := hp.rd
  have ew := key_of rb ek
  subst ew
  rcases dct_find em r k with ⟨z, _⟩ | ⟨x, d2, z1, z2, rr⟩
  · rw [z] at ev; cases ev
  · rw [z1] at ev; cases ev
    exact ⟨p, x, rfl, z2 ▸ .inl ⟨us, _, hp, rfl, rfl⟩, kk _ _ F H q (fun _ _ z => nomatch z) (.same fo rr)⟩
abbrev rDIn : R2 := fun y x H Q => ∃ a o, x = .ref a ∧ DGet H a y o ∧ Q (.bl o.isSome) H
abbrev rDNotIn : R2 := fun y x H Q => ∃ a o, x = .ref a ∧ DGet H a y o ∧ Q (.bl (!o.isSome)) H
def fDIn (neg : Bool) : FB := fun a b Q => ∃ kvs d k, a = .v d ∧ b = .dct kvs ∧ keyOf d = some k ∧ Q (.v (.bool (if neg then !(dFind kvs k).isSome else (dFind kvs k).isSome)))
theorem din_core {u w : V} {kvs : List (L2.Key × PyData)} {d : PyData} {k : L2.Key} (ra : SlotR K F H u (.v d)) (rb : SlotR K F H w (.dct kvs)) (ek : keyOf d = some k) : ∃ a o, w = .ref a ∧ DGet H a u o ∧ o.isSome = (dFind kvs k).isSome := by
  obtain ⟨p, us, rfl, hp, em, r⟩ := rb
  have hp := hp.rd
  have ew := key_of ra ek
  subst ew
  refine ⟨p, valV us k, rfl, .inl ⟨us, _, hp, rfl, rfl⟩, ?_⟩
  rcases dct_find em r k with ⟨z1, z2⟩ | ⟨x, d2, z1, z2, _⟩
  · rw [z1, z2]; rfl
  · rw [z1, z2]; rfl
theorem ops_din : OpS K rDIn (fDIn false) := by
  intro F H u w a b Q R fo ra rb ⟨kvs, d, k, e1, e2, ek, q⟩ kk
  subst e1 e2
  obtain ⟨p, o, e, g, eo⟩ := din_core ra rb ek
  refine ⟨p, o, e, g, ?_⟩
  rw [eo]
  exact kk _ _ F H q (fun _ _ z => nomatch z) (.same fo (.bl _))
theorem ops_dnotin : OpS K rDNotIn (fDIn true) := by
  intro F H u w a b Q R fo ra rb ⟨kvs, d, k, e1, e2, ek, q⟩ kk
  subst e1 e2
  obtain ⟨p, o, e, g, eo⟩ := din_core ra rb ek
  refine ⟨p, o, e, g, ?_⟩
  rw [eo]
  exact kk _ _ F H q (fun _ _ z => nomatch z) (.same fo (.bl _))
abbrev rSortedD : List V → Hp → L2.VK → Prop := fun xs H Q => ∃ (a : Addr) (kvs : List (L2.Key × V)) (ks : List Str), xs = [.ref a] ∧ Rd H a (.dK kvs) ∧ kvs.map (·.1) = ks.map Sum.inr ∧ ks.length < 64 ∧
    ∀ ys p, ys.Perm ks → sortedS ys = true → H p = none → Q (.ref p) (upd H p (.lst (ys.map V.str)))
/-- sorted(d), texts for keys -/
def fSortedD : FC := fun ss Q => ∃ kvs ks, ss = [.dct kvs] ∧ kvs.map (·.1) = ks.map Sum.inr ∧ ks.length < 64 ∧ ∀ ys : List Str, ys.Perm ks → sortedS ys = true → Q (.own (ys.map .str))
theorem cs_sortedD : CallS K rSortedD fSortedD := by
  intro F H us ss Q R fo al ⟨kvs, ks, e, e1, h64, q⟩ k
  subst e
  obtain ⟨u, rfl, p, ws, rfl, hp, em, r⟩ := ah1 al
  exact ⟨p, ws, ks, rfl, hp.rd, by rw [em, e1], h64, fun ys l pm so hl => k _ _ _ _ (q ys pm so) (fun _ _ z => nomatch z) (.newL fo hl (RA.strs ys))⟩
end
/-- list(range(n)) -/
def vListR (t : TV) : TV := fun ρ Q => t ρ fun s => ∃ n : Nat, s = .v (.int n) ∧ n ≤ 100000 ∧ Q (.own ((List.range n).map fun i => .int (i : Nat)))
section
variable {X : Cx} {f e o i : Expr} {t td ty : TV} {pos : Pos}
theorem ve_listR {κ1 : Nat} (h : ∀ te, PE X e te → PE X f (tLstRg (tRg1 te))) (he : VE X e t κ1) : VE X f (vListR t) κ1 := by
  obtain ⟨te, pe, g⟩ := he
  refine ⟨_, h te pe, fun B F H σ ρ Q R er bq q k => ?_⟩
  refine g B F H σ ρ _ _ er (by omega) q fun s u F' H' cq ⟨n, e1, hn, q⟩ x => ?_
  subst e1
  refine ⟨n, int_of x.sr, ⟨by decide, by decide, by omega, by omega, by omega⟩, fun p hp => k _ _ _ _ (by omega) q ((PRes.newL (ds := (List.range n).map fun i => .int (i : Nat)) x.dm hp ?_).res x.toExt fun _ _ z => nomatch z)⟩
  have e2 : rgV 0 n = ((List.range n).map fun i => ((i : Nat) : Int)).map V.int := by
    unfold rgV
    rw [List.map_map, show ((n : Int) - 0).toNat = n from by omega]
    exact List.map_congr_left fun i _ => by show V.int (0 + (i : Int)) = V.int i; rw [Int.zero_add]
  rw [e2, show (List.range n).map (fun i => PyData.int ((i : Nat) : Int)) = ((List.range n).map fun i => ((i : Nat) : Int)).map PyData.int from by rw [List.map_map]; rfl]
  exact RA.ints _
theorem ve_dget {κ1 κ2 : Nat} (hu : X.A.units + 1 < cLine) (ho : VE X o td κ1) (hi : VE X i ty κ2) (hs : NoSl i) : VE X (.Subscript o i pos) (vBin fDGet td ty) (κ1 + κ2) := by
  obtain ⟨tea, pa, ga⟩ := ho
  obtain ⟨teb, pb, gb⟩ := hi
  exact ⟨_, pe_dget hu pa pb hs, bin_go ops_dget ga gb⟩
theorem vt_din {κ1 κ2 : Nat} (hu : X.A.units + 1 < cLine) (hi : VE X i ty κ1) (ho : VE X o td κ2) (hm : behindInMarks .In o = false) : VT X (.Compare i [.In] [o] pos) (vTest (vBin (fDIn false) ty td)) (κ1 + κ2) := by
  obtain ⟨tea, pa, ga⟩ := hi
  obtain ⟨teb, pb, gb⟩ := ho
  refine ⟨_, pt_cmp (pc_din hu pa pb) hm, fun B F H σ ρ Q R er bq t k => ?_⟩
  refine bin_go ops_din ga gb B F H σ ρ _ (fun x H1 => ∃ d, x = .bl d ∧ R d H1) er (by omega) t fun s u F' H' cq ⟨c, e, q⟩ r => ?_
  subst e
  exact ⟨c, bool_of r.sr, k c F' H' (by omega) q r.toExt⟩
theorem ve_din {κ1 κ2 : Nat} (hu : X.A.units + 1 < cLine) (hi : VE X i ty κ1) (ho : VE X o td κ2) (hm : behindInMarks .In o = false) : VE X (.Compare i [.In] [o] pos) (vBin (fDIn false) ty td) (κ1 + κ2) := by
  obtain ⟨tea, pa, ga⟩ := hi
  obtain ⟨teb, pb, gb⟩ := ho
  exact ⟨_, pe_cmp (pc_din hu pa pb) hm, bin_go ops_din ga gb⟩
theorem vt_dnotin {κ1 κ2 : Nat} (hu : X.A.units + 1 < cLine) (hi : VE X i ty κ1) (ho : VE X o td κ2) (hm : behindInMarks .NotIn o = false) : VT X (.Compare i [.NotIn] [o] pos) (vTest (vBin (fDIn true) ty td)) (κ1 + κ2) := by
  obtain ⟨tea, pa, ga⟩ := hi
  obtain ⟨teb, pb, gb⟩ := ho
  refine ⟨_, pt_cmp (pc_dnotin hu pa pb) hm, fun B F H σ ρ Q R er bq t k => ?_⟩
  refine bin_go ops_dnotin ga gb B F H σ ρ _ (fun x H1 => ∃ d, x = .bl d ∧ R d H1) er (by omega) t fun s u F' H' cq ⟨c, e, q⟩ r => ?_
  subst e
  exact ⟨c, bool_of r.sr, k c F' H' (by omega) q r.toExt⟩
end
/-- a, b = [], e: the first one a list of one's own -/
theorem vs_parO {κ1 : Nat} {X : Cx} {i j : Nat} {st : Stmt} {es : List Expr} {t : TVs} (h : ∀ ta, PA X es ta → PS X st (tPar i j ta)) (ha : VA X es t κ1) : VS X st (vParO i j t) κ1 := by
  obtain ⟨ta, pa, g⟩ := ha
  refine ⟨_, h ta pa, fun B F H σ ρ E D er bq t k => ?_⟩
  refine g B F H σ ρ _ _ er (by omega) t fun ss us F' H' cq ⟨ds, b, e, q⟩ x al => ?_
  subst e
  match us, al with
  | [u, w], ⟨r1, o1, r2, _, _⟩ =>
    have e3 := er.set (s := .own ds) ⟨x, r1, o1⟩ (fun _ _ z => nomatch z) i
    have e4 := e3.set (s := .v b) ⟨e3.refl, r2, trivial⟩ (fun _ _ z => nomatch z) j
    exact ⟨u, w, rfl, k.nx F' H' _ _ (by omega) e4 q⟩
theorem s_parO {i j : Nat} {t : TVs} {E : VEnds} {ρ : VL.Env} : vParO i j t E ρ = t ρ fun ss => ∃ ds b, ss = [.own ds, .v b] ∧ E.nx ((ρ.set i (.own ds)).set j (.v b)) := (Eq.refl _).trans (Eq.refl _)
theorem parO_ex {ds : List PyData} {b : PyData} {P : List PyData → PyData → Prop} : (∃ es c, [SV.own ds, SV.v b] = [.own es, .v c] ∧ P es c) ↔ P ds b :=
  ⟨fun ⟨es, c, e, h⟩ => by
    simp only [List.cons.injEq, SV.ow.injEq, true_and, SV.v.injEq, and_true] at e
    rw [e.1, e.2]; exact h, fun h => ⟨ds, b, rfl, h⟩⟩
/-! ### how these are reckoned -/
section
variable {kvs : List (L2.Key × PyData)} {ss : List SV} {d : PyData} {Q : SV → Prop} {i : Int} {z : Str} {ds : List PyData}
theorem hand_dct : SV.hand (.dct kvs) = some (.dct kvs) := (Eq.refl _).trans (Eq.refl _)
theorem lend_dct : SV.lend (.dct kvs) = .dct kvs := (Eq.refl _).trans (Eq.refl _)
theorem hands_dct : hands (.dct kvs :: ss) = (hands ss).map (SV.dct kvs :: ·) := by
  show (match SV.hand (.dct kvs), hands ss with | some t, some ts => some (t :: ts) | _, _ => none) = _
  rcases hands ss <;> rfl
theorem m_dgetS : fDGet (.dct kvs) (.v (.str z)) Q = ∃ v, dFind kvs (.inr z) = some v ∧ Q (.v v) := by simp [fDGet, keyOf]
theorem m_dgetI : fDGet (.dct kvs) (.v (.int i)) Q = ∃ v, dFind kvs (.inl i) = some v ∧ Q (.v v) := by simp [fDGet, keyOf]
theorem m_dinS {neg : Bool} : fDIn neg (.v (.str z)) (.dct kvs) Q = Q (.v (.bool (if neg then !(dFind kvs (.inr z)).isSome else (dFind kvs (.inr z)).isSome))) := by simp [fDIn, keyOf]
theorem m_dinI {neg : Bool} : fDIn neg (.v (.int i)) (.dct kvs) Q = Q (.v (.bool (if neg then !(dFind kvs (.inl i)).isSome else (dFind kvs (.inl i)).isSome))) := by simp [fDIn, keyOf]
theorem m_listR {t : TV} {ρ : VL.Env} : vListR t ρ Q = t ρ fun s => ∃ n : Nat, s = .v (.int n) ∧ n ≤ 100000 ∧ Q (.own ((List.range n).map fun i => .int (i : Nat))) := (Eq.refl _).trans (Eq.refl _)
theorem m_lc {it : TVl} {g : TGt} {c : TVb} {t : TV} {vs : List Nat} {ρ : VL.Env} : vLc it g c t vs ρ Q = it ρ fun ds => cLoop g c t (wipeV ρ vs) ds [] fun acc => Q (.own acc) := (Eq.refl _).trans (Eq.refl _)
theorem m_lc2 {it it1 : TVl} {g g1 : TGt} {c c1 : TVb} {t : TV} {vs vs1 : List Nat} {ρ : VL.Env} : vLc2 it g c it1 g1 c1 t vs vs1 ρ Q = it ρ fun ds => cLoop2 g c it1 g1 c1 t vs1 (wipeV ρ vs) ds [] fun acc => Q (.own acc) := (Eq.refl _).trans (Eq.refl _)
theorem m_seqI {t : TV} {ρ : VL.Env} {R : List PyData → Prop} : vSeqI t ρ R = t ρ fun s => ∃ ds, s.items = some ds ∧ R ds := (Eq.refl _).trans (Eq.refl _)
end
end VL
namespace VL
open PySem PySem.Spec PyProof.Rows L2 VG
mutual
def ms : PyData → Nat
  | .none => 10
  | .bool _ => 10
  | .int _ => 2000
  | .str x => 10 * x.length + 10
  | .list xs => msAll xs + 10
  | .tuple xs => msAll xs + 10
  | .dict _ => 10
def msAll : List PyData → Nat
  | [] => 0
  | x :: xs => ms x + msAll xs
end
mutual
theorem ms_facts : ∀ (d : PyData) {b : Nat}, b ≤ 1900 → chk b d = true → d.showable = true ∧ d.hasDict = false ∧ wt d + 2 ≤ ms d
  | .none, _, _, _ => ⟨rfl, rfl, by show 4 + 2 ≤ 10; decide⟩
  | .bool _, _, _, _ => ⟨rfl, rfl, by show 5 + 2 ≤ 10; decide⟩
  | .int i, b, hb, h => by
    simp only [chk, decide_eq_true_eq] at h
    exact ⟨showI (Nat.lt_of_lt_of_le h (Nat.pow_le_pow_right (by decide) hb)), rfl, by show 1921 + 2 ≤ 2000; decide⟩
  | .str x, _, _, h => by
    simp only [chk, strG, List.all_eq_true, decide_eq_true_eq] at h
    have := PySem.StrLaws.reprText_len x fun c hc => Nat.lt_of_lt_of_le (h c hc) (by decide)
    refine ⟨rfl, rfl, ?_⟩
    show (reprText x).length + 2 ≤ 10 * x.length + 10
    omega
  | .list xs, _, hb, h => by
    obtain ⟨h1, h2, h3⟩ := msAll_facts xs hb h
    exact ⟨h1, h2, by show wtAll xs + 3 + 2 ≤ msAll xs + 10; omega⟩
  | .tuple xs, _, hb, h => by
    obtain ⟨h1, h2, h3⟩ := msAll_facts xs hb h
    exact ⟨h1, h2, by show wtAll xs + 3 + 2 ≤ msAll xs + 10; omega⟩
  | .dict _, _, _, h => by cases h
theorem msAll_facts : ∀ (ds : List PyData) {b : Nat}, b ≤ 1900 → chkAll b ds = true → PyData.showableAll ds = true ∧ PyData.hasDictAll ds = false ∧ wtAll ds ≤ msAll ds
  | [], _, _, _ => ⟨rfl, rfl, Nat.le_refl _⟩
  | d :: ds, b, hb, h => by
    simp only [chkAll, Bool.and_eq_true] at h
    obtain ⟨a1, a2, a3⟩ := ms_facts d hb h.1
    obtain ⟨b1, b2, b3⟩ := msAll_facts ds hb h.2
    exact ⟨by simp only [PyData.showableAll, a1, b1]; rfl, by simp only [PyData.hasDictAll, a2, b2]; rfl, by show wt d + 2 + wtAll ds ≤ ms d + msAll ds; omega⟩
end
/-- of bounded ints, weight and depth -/
structure Gm (b c n : Nat) (d : PyData) : Prop where
  ck : chk b d = true
  sz : ms d ≤ c
  dp : d.depth ≤ n
structure GmA (b c n : Nat) (ds : List PyData) : Prop where
  ck : chkAll b ds = true
  sz : msAll ds ≤ c
  dp : PyData.depthAll ds ≤ n
section
variable {b c n b' c' n' : Nat} {d : PyData} {xs ys : List PyData}
theorem Gm.shw (g : Gm b c n d) (hb : b ≤ 1900) (hc : c ≤ 16000000) (hn : n ≤ 64) : Shw d := by
  obtain ⟨h1, h2, h3⟩ := ms_facts d hb g.ck
  have h4 := g.sz
  exact shw_of h1 h2 (Nat.le_trans g.dp hn) (by omega)
theorem Gm.mono (g : Gm b c n d) (h1 : b ≤ b') (h2 : c ≤ c') (h3 : n ≤ n') : Gm b' c' n' d := ⟨chk_mono h1 d g.ck, Nat.le_trans g.sz h2, Nat.le_trans g.dp h3⟩
theorem GmA.mono (g : GmA b c n xs) (h1 : b ≤ b') (h2 : c ≤ c') (h3 : n ≤ n') : GmA b' c' n' xs := ⟨chkAll_mono h1 xs g.ck, Nat.le_trans g.sz h2, Nat.le_trans g.dp h3⟩
theorem msAll_append : ∀ {xs ys : List PyData}, msAll (xs ++ ys) = msAll xs + msAll ys
  | [], ys => by simp [msAll]
  | x :: xs, ys => by simp only [List.cons_append, msAll, msAll_append (xs := xs)]; omega
theorem GmA.append (g : GmA b c n xs) (h : GmA b c' n ys) : GmA b (c + c') n (xs ++ ys) :=
  ⟨by rw [chkAll_append, g.ck, h.ck]; rfl, by rw [msAll_append]; have := g.sz; have := h.sz; omega, by rw [depthAll_append]; have := g.dp; have := h.dp; omega⟩
theorem GmA.cons (g : Gm b c n d) (h : GmA b c' n xs) : GmA b (c + c') n (d :: xs) := by
  refine ⟨?_, ?_, ?_⟩
  · simp only [chkAll, g.ck, h.ck]; rfl
  · have := g.sz; have := h.sz; simp only [msAll]; omega
  · have := g.dp; have := h.dp; simp only [PyData.depthAll]; omega
theorem GmA.nil : GmA b 0 n [] := ⟨rfl, Nat.le_refl _, by simp [PyData.depthAll]⟩
theorem GmA.one (g : Gm b c n d) : GmA b c n [d] := GmA.cons g GmA.nil
theorem GmA.head (g : GmA b c n (d :: xs)) : Gm b c n d := by
  have h1 := g.ck
  have h2 := g.sz
  have h3 := g.dp
  simp only [chkAll, Bool.and_eq_true] at h1
  simp only [msAll] at h2
  simp only [PyData.depthAll] at h3
  exact ⟨h1.1, by omega, by omega⟩
theorem GmA.tail (g : GmA b c n (d :: xs)) : GmA b c n xs := by
  have h1 := g.ck
  have h2 := g.sz
  have h3 := g.dp
  simp only [chkAll, Bool.and_eq_true] at h1
  simp only [msAll] at h2
  simp only [PyData.depthAll] at h3
  exact ⟨h1.2, by omega, by omega⟩
theorem GmA.mem : ∀ {xs : List PyData} (_ : GmA b c n xs), d ∈ xs → Gm b c n d
  | x :: xs, g, h => by
    rcases List.mem_cons.mp h with rfl | h
    · exact g.head
    · exact GmA.mem g.tail h
theorem GmA.all : ∀ {xs : List PyData}, (∀ d ∈ xs, Gm b c n d) → GmA b (xs.length * c) n xs
  | [], _ => GmA.nil.mono (Nat.le_refl _) (Nat.zero_le _) (Nat.le_refl _)
  | x :: xs, h => (GmA.cons (h x (by simp)) (GmA.all fun d hd => h d (by simp [hd]))).mono (Nat.le_refl _) (by rw [List.length_cons, Nat.add_mul]; omega) (Nat.le_refl _)
theorem Gm.tup (g : GmA b c n xs) : Gm b (c + 10) (n + 1) (.tuple xs) := ⟨g.ck, by have := g.sz; show msAll xs + 10 ≤ _; omega, by have := g.dp; simp only [PyData.depth]; omega⟩
theorem Gm.lst (g : GmA b c n xs) : Gm b (c + 10) (n + 1) (.list xs) := ⟨g.ck, by have := g.sz; show msAll xs + 10 ≤ _; omega, by have := g.dp; simp only [PyData.depth]; omega⟩
theorem Gm.untup (g : Gm b c n (.tuple xs)) : GmA b c n xs := by
  have h1 : chkAll b xs = true := g.ck
  have h2 : msAll xs + 10 ≤ c := g.sz
  have h3 := g.dp
  simp only [PyData.depth] at h3
  exact ⟨h1, by omega, by omega⟩
theorem Gm.int {i : Int} (h : i.natAbs < 2 ^ b) : Gm b 2000 n (.int i) := ⟨decide_eq_true h, Nat.le_refl _, by simp [PyData.depth]⟩
theorem Gm.bool {x : Bool} : Gm b 10 n (.bool x) := ⟨rfl, Nat.le_refl _, by simp [PyData.depth]⟩
theorem Gm.none : Gm b 10 n .none := ⟨rfl, Nat.le_refl _, by simp [PyData.depth]⟩
theorem Gm.str {x : Str} (h : strG x = true) : Gm b (10 * x.length + 10) n (.str x) := ⟨h, Nat.le_refl _, by simp [PyData.depth]⟩
theorem Gm.shaped (g : Gm b c n d) (hn : n ≤ 64) : SeqAt.shaped d = true := by
  unfold SeqAt.shaped
  rw [lay_of d g.ck, decide_eq_true (Nat.le_trans g.dp hn)]; rfl
end
/-! ### texts of ints -/
theorem chars_inj : ∀ {l m : List Char}, l.map Char.toNat = m.map Char.toNat → l = m
  | [], [], _ => rfl
  | [], _ :: _, e => by cases e
  | _ :: _, [], e => by cases e
  | a :: l, b :: m, e => by
    simp only [List.map_cons, List.cons.injEq] at e
    rw [Char.toNat_inj.mp e.1, chars_inj e.2]
theorem shown_int_inj {i j : Int} (h : (PyData.int i).shown = (PyData.int j).shown) : i = j := by
  rw [PyData.shown_int, PyData.shown_int] at h
  have h2 := congrArg (fun s : Str => s.cps.toList) h
  rw [signs_ofString, signs_ofString] at h2
  have h3 : (toString i : String).toList = (toString j : String).toList := chars_inj h2
  have h4 : (toString i : String) = toString j := String.toList_inj.mp h3
  rw [Int.toString_eq_repr, Int.toString_eq_repr] at h4
  exact Int.repr_inj.mp h4
theorem shown_int_ne {i : Int} {z : Str} {k : Nat} (hk : k ≠ 45 ∧ (k < 48 ∨ 57 < k)) (h : k ∈ z.cps.toList) : (PyData.int i).shown ≠ z := fun e => by
  have := shown_int_free' hk i
  rw [e] at this
  exact this h
/-! ### sorted texts -/
theorem risingS_pw : ∀ {l : List Str} {p : Str}, risingS p l = true → (p :: l).Pairwise fun a b : Str => a.cps.toList ≤ b.cps.toList
  | [], p, _ => by simp
  | x :: l, p, h => by
    unfold risingS at h
    rw [Bool.and_eq_true, Bool.not_eq_true', ltCps_eq, decide_eq_false_iff_not] at h
    have hx : p.cps.toList ≤ x.cps.toList := List.not_lt.mp h.1
    have ih := risingS_pw h.2
    refine List.pairwise_cons.mpr ⟨fun y hy => ?_, ih⟩
    rcases List.mem_cons.mp hy with rfl | hy
    · exact hx
    · exact List.le_trans hx ((List.pairwise_cons.mp ih).1 y hy)
theorem sortedS_pw : ∀ {l : List Str}, sortedS l = true → l.Pairwise fun a b : Str => a.cps.toList ≤ b.cps.toList
  | [], _ => List.Pairwise.nil
  | x :: l, h => risingS_pw h
theorem sorted_uniq {ys ks : List Str} (p : ys.Perm ks) (s : sortedS ys = true) (t : sortedS ks = true) : ys = ks := by
  refine List.Perm.eq_of_pairwise (le := fun a b : Str => a.cps.toList ≤ b.cps.toList) (fun a b _ _ h1 h2 => ?_) (sortedS_pw s) (sortedS_pw t) p
  have e := List.le_antisymm h1 h2
  cases a
  cases b
  simp only [Str.mk.injEq]
  exact Array.toList_inj.mp e
/-! ### comprehensions -/
section
variable {g : TGt} {c : TVb} {t : TV} {w : VL.Env}
theorem cloop_fm (f : PyData → Option PyData) : ∀ {ds acc : List PyData} {Q : List PyData → Prop},
    (∀ d ∈ ds, ∀ (K1 : PyData → Prop) (K2 : Prop), (∀ z, f d = some z → K1 z) → (f d = none → K2) → g d w fun ρ' => c ρ' fun b => if b = true then t ρ' fun s => ∃ z, datasIn [s] = some [z] ∧ K1 z else K2) →
    acc.length + ds.length ≤ 100000 → Q (acc ++ ds.filterMap f) → cLoop g c t w ds acc Q
  | [], acc, Q, _, _, q => by rwa [show acc ++ [].filterMap f = acc from List.append_nil acc] at q
  | d :: ds, acc, Q, h, hl, q => by
    rw [List.length_cons] at hl
    refine h d (by simp) (fun z => acc.length < 100000 ∧ cLoop g c t w ds (acc ++ [z]) Q) (cLoop g c t w ds acc Q) (fun z e => ⟨by omega, ?_⟩) fun e => ?_
    · refine cloop_fm f (fun d hd => h d (by simp [hd])) (by rw [List.length_append]; show acc.length + 1 + ds.length ≤ _; omega) ?_
      rw [List.filterMap_cons, e] at q
      rwa [List.append_assoc]
    · refine cloop_fm f (fun d hd => h d (by simp [hd])) (by omega) ?_
      rwa [List.filterMap_cons, e] at q
theorem cloop_map (f : PyData → PyData) {ds : List PyData} {Q : List PyData → Prop}
    (h : ∀ d ∈ ds, ∀ (K1 : PyData → Prop) (K2 : Prop), K1 (f d) → g d w fun ρ' => c ρ' fun b => if b = true then t ρ' fun s => ∃ z, datasIn [s] = some [z] ∧ K1 z else K2)
    (hl : ds.length ≤ 100000) (q : Q (ds.map f)) : cLoop g c t w ds [] Q := by
  refine cloop_fm (fun d => some (f d)) (fun d hd K1 K2 k1 _ => h d hd K1 K2 (k1 _ rfl)) (by simpa using hl) ?_
  rw [List.nil_append, show (fun d => some (f d)) = some ∘ f from rfl, List.filterMap_eq_map]
  exact q
theorem cloop_inv {I : Nat → List PyData → Prop} {T : Nat} : ∀ {ds acc : List PyData} {i : Nat} {Q : List PyData → Prop},
    (∀ d ∈ ds, ∀ i acc, i < T → I i acc → ∀ (K1 : PyData → Prop) (K2 : Prop), (∀ z, I (i + 1) (acc ++ [z]) → acc.length < 100000 ∧ K1 z) → (I (i + 1) acc → K2) → g d w fun ρ' => c ρ' fun b => if b = true then t ρ' fun s => ∃ z, datasIn [s] = some [z] ∧ acc.length < 100000 ∧ K1 z else K2) →
    (∀ i acc, i < T → I i acc → acc.length < 100000) → i + ds.length = T → I i acc → (∀ acc, I T acc → Q acc) → cLoop g c t w ds acc Q
  | [], acc, i, Q, _, _, hT, hi, q => q acc (by rw [← hT]; exact hi)
  | d :: ds, acc, i, Q, h, hz, hT, hi, q => by
    rw [List.length_cons] at hT
    refine h d (by simp) i acc (by omega) hi (fun z => cLoop g c t w ds (acc ++ [z]) Q) (cLoop g c t w ds acc Q) (fun z hz' => ⟨hz i acc (by omega) hi, ?_⟩) fun hz' => ?_
    · exact cloop_inv (fun d hd => h d (by simp [hd])) hz (by omega) hz' q
    · exact cloop_inv (fun d hd => h d (by simp [hd])) hz (by omega) hz' q
end
end VL
namespace VL
open PySem PySem.Spec PyProof.Rows L2 VG

/-! ### xs[k] = v -/
theorem vals_set : ∀ {xs : List V} {us : List Value} (_ : Vals xs us) (j : Nat) {x : V} {u : Value} (_ : RelV x u), Vals (xs.set j x) (us.set j u)
  | _, _, .nil, _, _, _, _ => .nil
  | _, _, .cons _ b, 0, _, _, r => .cons r b
  | _, _, .cons a b, j + 1, _, _, r => .cons a (vals_set b j r)
section
variable {prog : Program} {w : World} {A : Around} {E : Value → Shared → Prop} {s : Shared}
theorem lput_at {l : Addr} {its : Array Value} {n : Nat} {k : Int} {t : Tok} {v : Value} {Q : Unit → Shared → Prop} (e : s.heap.get? l = some { cls := .type "list", data := .seq its n }) (k0 : 0 ≤ k) (hj : k < its.size) (hf : k < 2 ^ 63)
    (q : Q () { s with heap := s.heap.update l (Obj.mapSeq (·.setIfInBounds k.toNat v)) }) : wpAny (model prog w) A (setItem (.ref l) (.int k t) v) Q E s := by
  have il : s.heap.IsList l its := PySem.IsL.isList e
  unfold setItem
  try with_reducible refine wpAny_holding ?_
  first | refine wpAny_bind (wpAny_pure ?_) | skip
  refine wpAny_bind (wpAny_sequenceKey il.typeIs (by decide) ?_)
  have ent := PySem.F.entry_list_setitem
  refine wpAny_bind (wpAny_callSpecial?_slot (name := Str.ofString "__setitem__") il.typeIs PySem.F.slot_list_setitem (wpAny_call_entry PySem.F.slot_list_setitem il.typeIs ent ?_ (PySem.F.args_list_setitem_3 _ _ _)))
  have fi := PySem.fitsIndex_of k0 hf
  show wpAny _ _ (Builtin.List.listSubscript? (.int k t) >>= _) _ _ s
  refine wpAny_bind (PySem.wpAny_listSubscript_int fi ?_)
  clear fi hf
  obtain ⟨j, rfl⟩ := Int.eq_ofNat_of_zero_le k0
  have hj2 : j < its.size := by omega
  show wpAny _ _ ((seqItemAt l j >>= fun r => pure (r.map (j, ·))) >>= _) _ _ s
  refine wpAny_bind (wpAny_bind (wpAny_seqItemAt e rfl (wpAny_pure ?_)))
  rw [Array.getElem?_eq_getElem hj2]
  show wpAny _ _ (setSeqItemAt l j v >>= _) _ _ s
  refine wpAny_bind (wpAny_setSeqItemAt e rfl ?_)
  first | exact wpAny_pure ⟨.none, rfl, wpAny_pure q⟩ | exact wpAny_bind (wpAny_pure (wpAny_pure ⟨.none, rfl, wpAny_pure q⟩))
end
section
variable {X : Cx} {to ti tv : TE} {o i value : Expr} {pos pos' : Pos}
def sLPut (td ty tv : TE) : TS := fun D σ H => tv σ H fun v H1 => td σ H1 fun x H2 => ty σ H2 fun y H3 => ∃ (a : Addr) (xs : List V) (j : Nat), x = .ref a ∧ H3 a = some (.lst xs) ∧ y = .int (j : Nat) ∧ j < xs.length ∧ D.nx σ (upd H3 a (.lst (xs.set j v)))
theorem ps_lput (ho : PE X o to) (hi : PE X i ti) (hv : PE X value tv) (hs : swapsWith value (some (.Subscript o i pos')) pos.line X.env = pure false) : PS X (.Assign [.Subscript o i pos'] value pos) (sLPut to ti tv) := by
  refine ⟨fun pins s σ H D I h => ?_⟩
  refine wpAny_Assign_Subscript (thn (hv.run pins s σ H _ I h) fun r s1 p1 => ?_) hs
  obtain ⟨v, H1, I1, rv, q1⟩ := p1
  refine thn (ho.run pins s1 σ H1 _ I1 q1) fun u s2 p2 => ?_
  obtain ⟨x, H2, I2, rx, q2⟩ := p2
  refine thn (hi.run pins s2 σ H2 _ I2 q2) fun iv s3 p3 => ?_
  obtain ⟨y, H3, I3, ry, a, xs, j, ex, ea, ey, hj, q3⟩ := p3
  subst ex ey
  obtain rfl : u = Value.ref a := rx
  obtain ⟨t, rfl⟩ := ry
  obtain ⟨z, its, n, rr, hl, e⟩ := I3.lstM ea
  have z2 : xs.length < 9223372036854775808 := Nat.lt_of_le_of_lt z (by decide)
  have z3 : (j : Int) < 2 ^ 63 := by omega
  refine lput_at e (by omega) (by rw [List.size_toArray]; omega) z3 ?_
  refine ⟨σ, _, I3.lset (its' := its.set j r) ea e (by simp) ?_ (by rw [List.length_set]; exact z), q3⟩
  exact vals_set rr j rv
end
/-! ### a feed of four places -/
section
variable {X : Cx} {st : Stmt} {e : Expr} {t : TV} {i : Nat}
/-- [list(..), 0, 0, 0] -/
def vTap (t : TVs) : TV := fun ρ Q => t ρ fun ss => ∃ ns : List Int, ss = [.own (ns.map .int), .v (.int 0), .v (.int 0), .v (.int 0)] ∧ ∀ a, Q (.cell a ⟨true, ns⟩)
theorem ve_tap {κ1 : Nat} {es : List Expr} {t : TVs} {pos : Pos} (h : VA X es t κ1) : VE X (.List es pos) (vTap t) κ1 := by
  obtain ⟨ta, pa, g⟩ := h
  refine ⟨_, pe_lst pa, fun B F H σ ρ Q R er bq t k => ?_⟩
  refine g B F H σ ρ _ _ er (by omega) t fun ss us F1 H1 cq ⟨ns, e, q⟩ x a => ?_
  subst e
  obtain ⟨F2, ce, x2, ra⟩ := data_all (ds := [.list (ns.map .int), .int 0, .int 0, .int 0]) x a rfl
  match us, ra with
  | [u1, u2, u3, u4], .cons r1 (.cons r2 (.cons r3 (.cons r4 .nil))) =>
    cases r1 with
    | lst f hu r =>
      rename_i c xs
      have exs : xs = ns.map V.int := data_ints r
      subst exs
      cases r2
      cases r3
      cases r4
      refine ⟨by show 4 ≤ sizeLine; decide, fun p hp => ?_⟩
      have nf : ¬ F2 p := fun z => by
        obtain ⟨o, w, _⟩ := x2.dm p z
        rw [hp] at w; cases w
      have nc : c ≠ p := fun z => nf (by rw [← z]; exact f)
      have h0 : H p = none := by
        by_cases z : H p = none
        · exact z
        · exact absurd hp (x2.st.ex p z)
      refine k _ _ F2 _ (by omega) (q p) ⟨x2.pure (Stp.new hp) (x2.dm.new hp), ⟨rfl, nf, c, 0, 0, 0, upd_same, f, ?_, fun _ => ⟨by decide, by omega⟩⟩, .inr h0⟩
      rw [upd_ne nc]; exact hu
/-- a, b, c, d = feed; feed[3] = d + 1 -/
def vTapUT (i : Nat) (g : TGts) (t : TV) : TVS := fun E ρ => ∃ (a : Addr) (ns : List Int), ρ[i]? = some (.cell a ⟨true, ns⟩) ∧ ∀ x y z : Int, 0 ≤ z → z ≤ 1099511627776 →
  g [.list (ns.map .int), .int x, .int y, .int z] ρ fun ρ' => ρ'[i]? = some (.cell a ⟨true, ns⟩) ∧ t ρ' fun s => s = .v (.int (z + 1)) ∧ E.nx ρ'
theorem vss_tapUT {κ κ0 : Nat} {is : List Nat} {es : List Expr} {k : Nat} {pos : Pos} {g : TGts} {st2 : Stmt} {rest : List Stmt} {u : TVS} (hc : X.calm = true) (h : ∀ te tg', PE X e te → PG X (.Tuple es k pos) tg' → PS X st (tAsg te tg')) (he : PE X e (tVar i)) (hg : VTgs X is es g)
    (hn : (assignEach es X.env).length = 4) (hst : (assignEach es X.env).findIdx? (·.1) = none) {f : Expr} (h2 : ∀ te, PE X f te → PS X st2 (sLPut (tVar i) (tC (.int (3 : Nat))) te)) (hf : VE X f t κ0) (hr : VSs X rest u κ) (h0 : κ0 = 0 := by omega) : VSs X (st :: st2 :: rest) (vSeq (vTapUT i g t) u) (1 + κ) := by
  subst h0
  obtain ⟨gt, pg, gg⟩ := hg
  obtain ⟨te, pe, ge⟩ := hf
  obtain ⟨ur, pr, gr⟩ := hr
  refine ⟨_, pss_cons (h _ _ he (pg_unl hc pg hn hst)) (pss_cons (h2 te pe) pr), fun B F H σ ρ E D er bq ⟨a, ns, e, q⟩ k => ?_⟩
  obtain ⟨h1, c⟩ := er.cellAt e
  obtain ⟨nf, c', j, l, n, e1, e2, e3, cb⟩ := id c
  have hL : LIM = 1099511627776 := rfl
  obtain ⟨n0, n1⟩ := cb rfl
  refine ⟨.ref a, h1, a, [.ref c', .int j, .int l, .int n], rfl, SqL.of e1, rfl, ?_⟩
  refine gg B F H σ ρ _ _ _ _ er (.cons (.lst e2 e3 (RA.ints ns)) (.cons (.int j) (.cons (.int l) (.cons (.int n) .nil)))) (q j l n n0 (by omega)) fun σ' ρ' er' _ q' => ?_
  obtain ⟨e', q'⟩ := q'
  refine ge B F H σ' ρ' _ _ er' (by omega) q' fun s u F1 H1 c1 qs x => ?_
  obtain ⟨es, q1⟩ := qs
  subst es
  have er1 := er'.step x.toExt
  rw [int_of x.sr]
  obtain ⟨h1', c2⟩ := er1.cellAt e'
  obtain ⟨nf', d', a1, a2, a3, b1, b2, b3, b4⟩ := id c2
  have hck := x.st.ck
  refine ⟨.ref a, h1', a, _, 3, rfl, b1, rfl, by show 3 < 4; decide, ?_⟩
  have er2 := er1.step (Ext.cellw er1 e' b2 b3 (j := a1) (l := a2) (n := n + 1) 1 fun _ => ⟨by omega, by omega⟩)
  exact gr B ⟨F1.fr, F1.ck + 1⟩ _ σ' ρ' E D er2 (by show F1.ck + 1 + κ ≤ LIM; omega) q1 (k.mono (by show F1.ck + 1 + κ ≤ _; omega))
/-- feed[j] = e, j one of 1, 2 -/
def vTapSet (i : Nat) (t : TV) : TVS := fun E ρ => ∃ (a : Addr) (ns : List Int), ρ[i]? = some (.cell a ⟨true, ns⟩) ∧ t ρ fun s => isI s fun _ => E.nx ρ
theorem vs_tapSet {κ1 : Nat} {j : Nat} (h : ∀ te, PE X e te → PS X st (sLPut (tVar i) (tC (.int (j : Nat))) te)) (he : VE X e t κ1) (hj : j = 1 ∨ j = 2) : VS X st (vTapSet i t) κ1 := by
  obtain ⟨te, pe, g⟩ := he
  refine ⟨_, h te pe, fun B F H σ ρ E D er bq ⟨a, ns, e, t⟩ k => ?_⟩
  refine g B F H σ ρ _ _ er bq t fun s u F1 H1 cq ⟨m, e1, q⟩ x => ?_
  subst e1
  have er1 := er.step x.toExt
  rw [int_of x.sr]
  obtain ⟨h1, c⟩ := er1.cellAt e
  obtain ⟨nf, c', a1, a2, a3, e1, e2, e3, cb⟩ := id c
  have fin : ∀ j' l' : Int, ([V.ref c', .int a1, .int a2, .int a3].set j (.int m)) = [V.ref c', .int j', .int l', .int a3] →
      tVar i σ H1 (fun x H2 => tC (.int (j : Nat)) σ H2 fun y H3 => ∃ (a : Addr) (xs : List V) (j0 : Nat), x = .ref a ∧ H3 a = some (.lst xs) ∧ y = .int (j0 : Nat) ∧ j0 < xs.length ∧ D.nx σ (upd H3 a (.lst (xs.set j0 (.int m))))) := fun j' l' d => by
    refine ⟨.ref a, h1, a, _, j, rfl, e1, rfl, by rcases hj with rfl | rfl <;> (show _ < 4; decide), ?_⟩
    rw [d]
    exact k.nx F1 _ σ ρ (by omega) (er1.step (Ext.cellw er1 e e2 e3 (j := j') (l := l') (n := a3) 0 cb)) q
  rcases hj with rfl | rfl
  · exact fin m a2 rfl
  · exact fin a1 m rfl
theorem s_tap {t : TVs} {ρ : VL.Env} {Q : SV → Prop} : vTap t ρ Q = t ρ fun ss => ∃ ns : List Int, ss = [.own (ns.map .int), .v (.int 0), .v (.int 0), .v (.int 0)] ∧ ∀ a, Q (.cell a ⟨true, ns⟩) := (Eq.refl _).trans (Eq.refl _)
theorem s_tapUT {g : TGts} {E : VEnds} {ρ : VL.Env} : vTapUT i g t E ρ = ∃ (a : Addr) (ns : List Int), ρ[i]? = some (.cell a ⟨true, ns⟩) ∧ ∀ x y z : Int, 0 ≤ z → z ≤ 1099511627776 →
  g [.list (ns.map .int), .int x, .int y, .int z] ρ fun ρ' => ρ'[i]? = some (.cell a ⟨true, ns⟩) ∧ t ρ' fun s => s = .v (.int (z + 1)) ∧ E.nx ρ' := (Eq.refl _).trans (Eq.refl _)
theorem s_tapSet {E : VEnds} {ρ : VL.Env} : vTapSet i t E ρ = ∃ (a : Addr) (ns : List Int), ρ[i]? = some (.cell a ⟨true, ns⟩) ∧ t ρ fun s => isI s fun _ => E.nx ρ := (Eq.refl _).trans (Eq.refl _)
end
/-! ### sorted(data) -/
section
variable {X : Cx} {K : PySem.W.Frag}
abbrev Srts (ds : List PyData) : List PyData := ds.mergeSort (PySem.W.dataLe false id)
def rSortedA (K : PySem.W.Frag) : List V → Hp → L2.VK → Prop := fun xs H Q => ∃ (P : V → PyData → Prop) (a : Addr) (vs : List V) (ds : List PyData), xs = [.ref a] ∧ SqL K H a vs ∧ PySem.W.EachIs P vs ds ∧ DpAll K H vs ds ∧ PySem.W.AllAlike ds ∧ PySem.W.Sortable ds ∧ (∀ d ∈ ds, d.depth ≤ 60) ∧
  ∀ ys p, PySem.W.EachIs P ys (Srts ds) → H p = none → Q (.ref p) (upd H p (.lst ys))
theorem each_vals {P : V → PyData → Prop} : ∀ {vs : List V} {us : List Value} {ds : List PyData}, Vals vs us → PySem.W.EachIs P vs ds → PySem.W.EachIs (fun u d => ∃ x, RelV x u ∧ P x d) us ds
  | _, _, _, .nil, .nil => .nil
  | _, _, _, .cons a b, .cons c d => .cons ⟨_, a, c⟩ (each_vals b d)
theorem vals_each {P : V → PyData → Prop} : ∀ {us : List Value} {ds : List PyData}, PySem.W.EachIs (fun u d => ∃ x, RelV x u ∧ P x d) us ds → ∃ vs, Vals vs us ∧ PySem.W.EachIs P vs ds
  | _, _, .nil => ⟨[], .nil, .nil⟩
  | _, _, .cons ⟨x, a, b⟩ r => by
    obtain ⟨vs, h1, h2⟩ := vals_each r
    exact ⟨x :: vs, .cons a h1, .cons b h2⟩
theorem each_reads {h : Heap} : ∀ {us : List Value} {ds : List PyData} {as : List Addr}, ReadsAll h us ds as → PySem.W.EachIs (fun v d => ∃ as, Reads h v (id d) as) us ds
  | _, _, _, .nil => .nil
  | _, _, _, .cons a b => .cons ⟨_, a⟩ (each_reads b)
theorem cr_sortedA {k : Nat} (hr : Room k X.A) : CallR X (.builtin "sorted") (rSortedA X.K) := by
  intro pins s σ H xs us Q I r h
  obtain ⟨P, a, vs, ds, rfl, hs, ep, dp, al, so, dl, q⟩ := h
  obtain ⟨its, rv, hl, hz⟩ := I.list hs
  obtain ⟨u, rfl, ru⟩ := vals1 r
  obtain rfl : u = Value.ref a := ru
  obtain ⟨as, rd⟩ := Dp.readsAll I ds vs its dp rv
  have lens : its.length = ds.length := by
    have := (each_vals rv ep).length
    exact this
  have hu := hu64 hr
  refine PySem.W.sorted_data (enc := id) (bs := ds) (R := fun u d => ∃ x, RelV x u ∧ P x d) hl.isList (each_vals rv ep) (each_reads rd) (by rw [List.map_id]; exact al) (by rw [List.map_id]; exact so) (by rw [← lens, ← rv.length]; exact hz) (fun d hd => ?_) fun out ho er => ?_
  · have := dl d hd
    show _ + 2 + d.depth < cLine
    omega
  · obtain ⟨ys, h1, h2⟩ := vals_each er
    obtain ⟨n, hn⟩ := sortedAll_at s.heap its out.toArray
    refine ⟨.ref (s.heap.objs.size + 1), upd H (s.heap.objs.size + 1) (.lst ys), I.laid (t' := s.toks) (fun b o e => sortedAll_old e) (Nat.le_succ _) ⟨?_, out, n, h1, hn⟩, rfl, q _ _ h2 (I.hok.fresh (Nat.le_succ _))⟩
    rw [h1.length, ho, ← lens, ← rv.length]; exact hz
theorem ra_each {F : FS} {H : Hp} : ∀ {us : List V} {ds : List PyData}, RA K F H us ds → PySem.W.EachIs (fun v d => R1 K F H v d) us ds
  | _, _, .nil => .nil
  | _, _, .cons a b => .cons a (ra_each b)
theorem each_ra {F : FS} {H : Hp} : ∀ {us : List V} {ds : List PyData}, PySem.W.EachIs (fun v d => R1 K F H v d) us ds → RA K F H us ds
  | _, _, .nil => .nil
  | _, _, .cons a b => .cons a (each_ra b)
mutual
theorem alike_nd : ∀ d : PyData, PySem.W.alike d d = true → d.hasDict = false
  | .none, _ => rfl
  | .bool _, _ => rfl
  | .int _, _ => rfl
  | .str _, _ => rfl
  | .list xs, h => by
    have := alikeAll_nd xs (by simpa [PySem.W.alike] using h)
    simpa [PyData.hasDict] using this
  | .tuple xs, h => by
    have := alikeAll_nd xs (by simpa [PySem.W.alike] using h)
    simpa [PyData.hasDict] using this
  | .dict _, h => by simp [PySem.W.alike] at h
theorem alikeAll_nd : ∀ ds : List PyData, PySem.W.alikeAll ds ds = true → PyData.hasDictAll ds = false
  | [], _ => rfl
  | d :: ds, h => by
    simp only [PySem.W.alikeAll, Bool.and_eq_true] at h
    simp [PyData.hasDictAll, alike_nd d h.1, alikeAll_nd ds h.2]
end
theorem nd_all : ∀ {ds : List PyData}, (∀ d ∈ ds, d.hasDict = false) → PyData.hasDictAll ds = false
  | [], _ => rfl
  | d :: ds, h => by
    have h1 := h d (by simp)
    have h2 := nd_all (ds := ds) fun x hx => h x (by simp [hx])
    simp [PyData.hasDictAll, h1, h2]
theorem alikes_nd {ds : List PyData} (h : PySem.W.AllAlike ds) : PyData.hasDictAll ds = false := nd_all fun d hd => alike_nd d (h d hd d hd)
def fSorted : FC := fun ss Q => ∃ s ds, ss = [s] ∧ s.asL = some ds ∧ PySem.W.AllAlike ds ∧ PySem.W.Sortable ds ∧ (∀ d ∈ ds, d.depth ≤ 60) ∧ Q (.own (Srts ds))
theorem cs_sorted : CallS K (rSortedA K) fSorted := by
  intro F H us ss Q R fo al ⟨s, ds, e, e1, h1, h2, h3, q⟩ k
  subst e
  obtain ⟨u, rfl, h⟩ := ah1 al
  obtain ⟨a, xs, rfl, sq, r⟩ := asL_sq h e1
  exact ⟨fun v d => R1 K F H v d, a, xs, ds, rfl, sq, ra_each r, RA.dp r (alikes_nd h1), h1, h2, h3, fun ys p er hp => k _ _ _ _ q (fun _ _ z => nomatch z) (.newL fo hp (each_ra er))⟩
end
/-! ### x in xs -/
def flatD : PyData → Bool
  | .none => true
  | .bool _ => true
  | .int _ => true
  | .str _ => true
  | _ => false
theorem flat_dp {K : PySem.W.Frag} {H : Hp} {u : V} {d : PyData} (h : Dp K H u d) (f : flatD d = true) : flatV u = true ∧ ∀ {w : V} {e : PyData}, Dp K H w e → flatD e = true → eqV w u = PyData.eqv e d := by
  cases h <;> first | (cases f; done) | skip
  all_goals
    refine ⟨rfl, fun {w e} h2 f2 => ?_⟩
    cases h2 <;> first | (cases f2; done) | simp [eqV, PyData.eqv]
section
variable {K : PySem.W.Frag} {F : FS} {H : Hp}
theorem any_flat {u : V} {d : PyData} (h : Dp K H u d) (f : flatD d = true) : ∀ {vs : List V} {ds : List PyData}, DpAll K H vs ds → ds.all flatD = true → vs.all flatV = true ∧ inV u vs = ds.any (PyData.eqv · d)
  | _, _, .nil, _ => ⟨rfl, rfl⟩
  | _, _, .cons a b, g => by
    simp only [List.all_cons, Bool.and_eq_true] at g
    obtain ⟨h1, h2⟩ := any_flat h f b g.2
    have a1 := (flat_dp a g.1).1
    have a2 := (flat_dp h f).2 a g.1
    refine ⟨by simp only [List.all_cons, a1, h1, Bool.and_self], ?_⟩
    unfold inV at h2 ⊢
    simp only [List.any_cons, a2, h2]
abbrev rInA (K : PySem.W.Frag) (neg : Bool) : R2 := r2or (fun x y H Q => ∃ (c : Nat) (z : Str), x = .str ⟨#[c]⟩ ∧ y = .str z ∧ Q (.bl (if neg then !decide (c ∈ z.cps.toList) else decide (c ∈ z.cps.toList))) H) (rIn K neg)
theorem op_inA {X : Cx} : OpR X (compareOp .In) (rInA X.K false) := op_in_sign.or op_in_seq
theorem op_notInA {X : Cx} : OpR X (compareOp .NotIn) (rInA X.K true) := op_notIn_sign.or op_notIn_seq
theorem flat_nd {d : PyData} (h : flatD d = true) : d.hasDict = false := by cases d <;> first | rfl | cases h
theorem flats_nd {ds : List PyData} (h : ds.all flatD = true) : PyData.hasDictAll ds = false := nd_all fun d hd => flat_nd (List.all_eq_true.mp h d hd)
def fIn (neg : Bool) : FB := fun a b Q => (∃ (c : Nat) (z : Str), a = .v (.str ⟨#[c]⟩) ∧ b = .v (.str z) ∧ Q (.v (.bool (if neg then !decide (c ∈ z.cps.toList) else decide (c ∈ z.cps.toList))))) ∨
  ∃ d ds, a = .v d ∧ b.asQ = some ds ∧ flatD d = true ∧ ds.all flatD = true ∧ Q (.v (.bool (if neg then !ds.any (PyData.eqv · d) else ds.any (PyData.eqv · d))))
theorem ops_in {neg : Bool} : OpS K (rInA K neg) (fIn neg) := by
  intro F H u w a b Q R fo ra rb q k
  rcases q with ⟨c, z, e1, e2, q⟩ | ⟨d, ds, e1, e2, f1, f2, q⟩
  · subst e1 e2
    rw [str_of ra, str_of rb]
    exact .inl ⟨c, z, rfl, rfl, k _ _ F H q (fun _ _ z => nomatch z) (.same fo (.bl _))⟩
  · subst e1
    obtain ⟨p, xs, rfl, sq, r⟩ := asQ_sq rb e2
    have dp := R1.dp (show R1 K F H u d from ra) (flat_nd f1)
    obtain ⟨h1, h2⟩ := any_flat dp f1 (RA.dp r (flats_nd f2)) f2
    refine .inr ⟨p, xs, rfl, sq.imp id SqN.t, (flat_dp dp f1).1, h1, ?_⟩
    rw [h2]
    exact k _ _ F H q (fun _ _ z => nomatch z) (.same fo (.bl _))
end
/-! ### <, >= of tuples -/
section
variable {X : Cx} {K : PySem.W.Frag}
def rLtD (K : PySem.W.Frag) : R2 := fun x y H Q => ∃ d e, Dp K H x d ∧ Dp K H y e ∧ PySem.W.alike d e = true ∧ d ≠ .none ∧ d.depth ≤ 60 ∧ Q (.bl (PySem.W.dataLt d e)) H
theorem op_ltD {k : Nat} (hr : Room k X.A) : OpR X (compareOp .Lt) (rLtD X.K) := by
  intro pins s σ H x y v u Q I rx ry h
  obtain ⟨d, e, h1, h2, al, nn, hd, q⟩ := h
  obtain ⟨as, r1⟩ := Dp.reads I d x v h1 rx
  obtain ⟨bs, r2⟩ := Dp.reads I e y u h2 ry
  have hu := hu64 hr
  exact PySem.W.rcLt_alike d e X.A s v u as bs r1 r2 al nn (by omega) _ _ _ _ ⟨.bl _, H, I, rfl, q⟩
/-- <: ints, texts, tuples that are alike -/
def fLtD : FB := fun a b Q => match a, b with
  | .v (.int i), .v (.int j) => Q (.v (.bool (decide (i < j))))
  | .v (.str i), .v (.str j) => Q (.v (.bool (decide (i.cps.toList < j.cps.toList))))
  | .v (.tuple ds), .v (.tuple es) => PySem.W.alike (.tuple ds) (.tuple es) = true ∧ PyData.depth (.tuple ds) ≤ 60 ∧ (PyData.hasDict (.tuple ds) = false ∧ PyData.hasDict (.tuple es) = false) ∧ Q (.v (.bool (PySem.W.dataLt (.tuple ds) (.tuple es))))
  | _, _ => False
abbrev rLtAll (K : PySem.W.Frag) : R2 := r2or (rI0 fun i j => .bl (decide (i < j))) (r2or (rStrCmp fun x y => decide (x < y)) (rLtD K))
theorem op_ltAll {k : Nat} (hr : Room k X.A) : OpR X (compareOp .Lt) (rLtAll X.K) := op_lt.or (op_lt_str.or (op_ltD hr))
theorem ops_ltAll : OpS K (rLtAll K) fLtD := by
  intro F H u w a b Q R fo ra rb q k
  unfold fLtD at q
  split at q
  · rw [int_of ra, int_of rb]
    exact .inl ⟨_, _, rfl, rfl, k _ _ F H q (fun _ _ z => nomatch z) (.same fo (.bl _))⟩
  · rw [str_of ra, str_of rb]
    exact .inr (.inl ⟨_, _, rfl, rfl, k _ _ F H q (fun _ _ z => nomatch z) (.same fo (.bl _))⟩)
  · obtain ⟨h1, h2, ⟨n1, n2⟩, q⟩ := q
    exact .inr (.inr ⟨_, _, R1.dp (show R1 K F H u _ from ra) n1, R1.dp (show R1 K F H w _ from rb) n2, h1, (fun z => nomatch z), h2, k _ _ F H q (fun _ _ z => nomatch z) (.same fo (.bl _))⟩)
  · exact q.elim
/-- >= of rows of texts -/
def geS : List Str → List Str → Bool
  | [], [] => true
  | [], _ :: _ => false
  | _ :: _, [] => true
  | x :: xs, y :: ys => if x = y then geS xs ys else !decide (x.cps.toList < y.cps.toList)
theorem geS_lex : ∀ (k i : Nat) (xs ys : List Str), k = min (xs.length - i) (ys.length - i) → i ≤ xs.length → i ≤ ys.length →
    Ob.lexAt (fun j => xs.getD j Str.empty == ys.getD j Str.empty) (fun j => !decide ((xs.getD j Str.empty).cps.toList < (ys.getD j Str.empty).cps.toList)) (decide (xs.length ≥ ys.length)) i k = geS (xs.drop i) (ys.drop i)
  | 0, i, xs, ys, h, hx, hy => by
    rw [Ob.lexAt_zero]
    by_cases h1 : i = xs.length
    · subst h1
      rw [List.drop_length]
      by_cases h2 : xs.length = ys.length
      · rw [h2, List.drop_length]; simp [geS]
      · obtain ⟨y, r, e⟩ : ∃ y r, ys.drop xs.length = y :: r := by
          rw [List.drop_eq_getElem_cons (by omega)]; exact ⟨_, _, rfl⟩
        rw [e]
        simp only [geS, decide_eq_false_iff_not]
        omega
    · have h2 : i = ys.length := by omega
      subst h2
      obtain ⟨x, r, e⟩ : ∃ x r, xs.drop ys.length = x :: r := by
        rw [List.drop_eq_getElem_cons (by omega)]; exact ⟨_, _, rfl⟩
      rw [List.drop_length, e]
      simp only [geS, decide_eq_true_eq]
      omega
  | k + 1, i, xs, ys, h, hx, hy => by
    have l1 : i < xs.length := by omega
    have l2 : i < ys.length := by omega
    rw [Ob.lexAt_succ, geS_lex k (i + 1) xs ys (by omega) (by omega) (by omega), List.drop_eq_getElem_cons l1, List.drop_eq_getElem_cons l2]
    simp only [geS, List.getD_eq_getElem?_getD, List.getElem?_eq_getElem l1, List.getElem?_eq_getElem l2, Option.getD_some, beq_iff_eq]
theorem vals_strs : ∀ {xs : List Str} {us : List Value}, Vals (xs.map V.str) us → ∀ j (h : j < us.length), ∃ t, us[j] = .str (xs.getD j Str.empty) t
  | [], _, .nil, j, h => absurd h (Nat.not_lt_zero _)
  | x :: xs, _, .cons a b, 0, h => by
    obtain ⟨t, e⟩ := a
    exact ⟨t, e⟩
  | x :: xs, _, .cons a b, j + 1, h => by
    obtain ⟨t, e⟩ := vals_strs b j (by simpa using h)
    exact ⟨t, by simpa using e⟩
def rGeS (K : PySem.W.Frag) : R2 := fun x y H Q => ∃ (a b : Addr) (xs ys : List Str), x = .ref a ∧ y = .ref b ∧ SqT K H a (xs.map V.str) ∧ SqT K H b (ys.map V.str) ∧ Q (.bl (geS xs ys)) H
theorem op_geS {k : Nat} (hr : Room k X.A) : OpR X (compareOp .GtE) (rGeS X.K) := by
  intro pins s σ H x y v u Q I rx ry h
  obtain ⟨a, b, xs, ys, rfl, rfl, ha, hb, q⟩ := h
  cases rx
  cases ry
  obtain ⟨its, r1, p1, _⟩ := I.tuple ha
  obtain ⟨its2, r2, p2, _⟩ := I.tuple hb
  have e1 : its.toArray.size = xs.length := by rw [List.size_toArray, ← r1.length, List.length_map]
  have e2 : its2.toArray.size = ys.length := by rw [List.size_toArray, ← r2.length, List.length_map]
  have hu := hu64 hr
  have R := Ob.RcOp.tuples_ge (A := X.A) (s := s) (e := fun j => xs.getD j Str.empty == ys.getD j Str.empty) (r := fun j => !decide ((xs.getD j Str.empty).cps.toList < (ys.getD j Str.empty).cps.toList)) p1 p2 (by omega) (fun j h1 h2 => by
    obtain ⟨t, et⟩ := vals_strs r1 j (by simpa using h1)
    obtain ⟨t', et'⟩ := vals_strs r2 j (by simpa using h2)
    have et1 : its.toArray[j] = .str (xs.getD j Str.empty) t := by simpa using et
    have et2 : its2.toArray[j] = .str (ys.getD j Str.empty) t' := by simpa using et'
    rw [et1, et2]
    exact eqAt_V (y := .str _) (x := .str _) ⟨t, rfl⟩ ⟨t', rfl⟩ rfl rfl) (fun j h1 h2 _ => by
    obtain ⟨t, et⟩ := vals_strs r1 j (by simpa using h1)
    obtain ⟨t', et'⟩ := vals_strs r2 j (by simpa using h2)
    have et1 : its.toArray[j] = .str (xs.getD j Str.empty) t := by simpa using et
    have et2 : its2.toArray[j] = .str (ys.getD j Str.empty) t' := by simpa using et'
    rw [et1, et2]
    exact fun _ _ _ _ h => PySem.P.ge_str h)
  rw [e1, e2, geS_lex (min xs.length ys.length) 0 xs ys (by simp) (Nat.zero_le _) (Nat.zero_le _)] at R
  exact R X.prog X.w X.xe (EP X pins σ Q) ⟨.bl _, H, I, rfl, q⟩
theorem data_strs {F : FS} {H : Hp} : ∀ {us : List V} {xs : List Str}, RA K F H us (xs.map PyData.str) → us = xs.map V.str
  | [], [], _ => rfl
  | _ :: _, [], h => by cases h
  | [], _ :: _, h => by cases h
  | u :: us, x :: xs, h => by
    cases h with
    | cons a c => cases a with | str z => rw [data_strs c]; rfl
/-- >=: ints, rows of texts -/
def fGeA : FB := fun a b Q => (∃ i j, a = .v (.int i) ∧ b = .v (.int j) ∧ Q (.v (.bool (decide (j ≤ i))))) ∨ ∃ xs ys : List Str, a = .v (.tuple (xs.map .str)) ∧ b = .v (.tuple (ys.map .str)) ∧ Q (.v (.bool (geS xs ys)))
abbrev rGeAll (K : PySem.W.Frag) : R2 := r2or (rI0 fun i j => .bl (decide (j ≤ i))) (rGeS K)
theorem op_geAll {k : Nat} (hr : Room k X.A) : OpR X (compareOp .GtE) (rGeAll X.K) := op_ge.or (op_geS hr)
theorem ops_geAll : OpS K (rGeAll K) fGeA := by
  intro F H u w a b Q R fo ra rb q k
  rcases q with ⟨i, j, e1, e2, q⟩ | ⟨xs, ys, e1, e2, q⟩
  · subst e1 e2
    rw [int_of ra, int_of rb]
    exact .inl ⟨_, _, rfl, rfl, k _ _ F H q (fun _ _ z => nomatch z) (.same fo (.bl _))⟩
  · subst e1 e2
    obtain ⟨a, us, rfl, s1, r1⟩ := asT_sq (ds := xs.map .str) ra rfl
    obtain ⟨b, ws, rfl, s2, r2⟩ := asT_sq (ds := ys.map .str) rb rfl
    rw [data_strs r1] at s1
    rw [data_strs r2] at s2
    exact .inr ⟨a, b, xs, ys, rfl, rfl, s1.t, s2.t, k _ _ F H q (fun _ _ z => nomatch z) (.same fo (.bl _))⟩
/-! ### chains -/
def vChain (f g : FB) (ta tb tc : TV) : TV := fun ρ Q => ta ρ fun a => tb ρ fun b => f a b fun s => isB s fun k => if k = true then tc ρ fun c => g b c Q else Q (.v (.bool false))
theorem chain_go {κ1 κ2 κ3 : Nat} {r r' : R2} {f g : FB} {ta tb tc : TV} {tea teb tec : TE} (hs : OpS X.K r f) (hs' : OpS X.K r' g)
    (ha : RE X ta κ1 tea)
    (hb : RE X tb κ2 teb)
    (hc : RE X tc κ3 tec) :
    RE X (vChain f g ta tb tc) (κ1 + κ2 + κ3) (tChain r r' tea teb tec) := by
  intro B F H σ ρ Q R er bq t k
  refine ha B F H σ ρ _ _ er (by omega) t fun a u F1 H1 c1 q1 r1 => ?_
  refine hb B F1 H1 σ ρ _ _ (er.step r1.toExt) (by omega) q1 fun b w F2 H2 c2 q2 r2 => ?_
  refine hs F2 H2 u w a b _ _ r2.dm (r1.sr.keep r1.fo er.refl.cp r2.toExt) r2.sr q2 fun s z F3 H3 q3 nb r3 => ?_
  have c3 := r3.ce
  obtain ⟨c, e, q3⟩ := q3
  subst e
  have x3 : Res X.K ρ F H F3 H3 (.v (.bool c)) z := r3.res (r1.toExt.trans r2.toExt) nb
  have x23 : Ext ρ F2 H2 F3 H3 := (Ext.pure ((er.step r1.toExt).step r2.toExt).refl r3.st r3.dm)
  refine ⟨c, bool_of r3.sr, ?_⟩
  cases c with
  | false => exact k _ _ F3 H3 (by omega) q3 ⟨x3.toExt, .bl false, trivial⟩
  | true =>
    have er3 := (er.step r1.toExt).step (r2.toExt.trans x23)
    refine hc B F3 H3 σ ρ _ _ er3 (by omega) q3 fun s2 u2 F4 H4 c4 q4 r4 => ?_
    have kb : SlotR X.K F4 H4 w b := r2.sr.keep r2.fo (er.step r1.toExt).refl.cp (x23.trans r4.toExt)
    exact hs' F4 H4 w u2 b s2 Q R r4.dm kb r4.sr q4 fun s5 z5 F5 H5 q5 nb5 r5 => k s5 z5 F5 H5 (by have := r5.ce; omega) q5 (r5.res (x3.toExt.trans r4.toExt) nb5)
theorem ve_chain {κ1 κ2 κ3 : Nat} {op op' : CmpOp} {r r' : R2} {f g : FB} {ta tb tc : TV} {a b c : Expr} {pos : Pos} (ho : OpR X (compareOp op) r) (ho' : OpR X (compareOp op') r') (hs : OpS X.K r f) (hs' : OpS X.K r' g) (ha : VE X a ta κ1) (hb : VE X b tb κ2) (hc : VE X c tc κ3)
    (h : ∀ tea teb tec, PE X a tea → PE X b teb → PE X c tec → PE X (.Compare a [op, op'] [b, c] pos) (tChain r r' tea teb tec)) : VE X (.Compare a [op, op'] [b, c] pos) (vChain f g ta tb tc) (κ1 + κ2 + κ3) := by
  obtain ⟨tea, pa, ga⟩ := ha
  obtain ⟨teb, pb, gb⟩ := hb
  obtain ⟨tec, pc, gc⟩ := hc
  exact ⟨_, h _ _ _ pa pb pc, chain_go hs hs' ga gb gc⟩
theorem vt_chain {κ1 κ2 κ3 : Nat} {op op' : CmpOp} {r r' : R2} {f g : FB} {ta tb tc : TV} {a b c : Expr} {pos : Pos} (ho : OpR X (compareOp op) r) (ho' : OpR X (compareOp op') r') (hs : OpS X.K r f) (hs' : OpS X.K r' g) (ha : VE X a ta κ1) (hb : VE X b tb κ2) (hc : VE X c tc κ3)
    (h : ∀ tea teb tec, PE X a tea → PE X b teb → PE X c tec → PT X (.Compare a [op, op'] [b, c] pos) (tTest (tChain r r' tea teb tec))) : VT X (.Compare a [op, op'] [b, c] pos) (vTest (vChain f g ta tb tc)) (κ1 + κ2 + κ3) := by
  obtain ⟨tea, pa, ga⟩ := ha
  obtain ⟨teb, pb, gb⟩ := hb
  obtain ⟨tec, pc, gc⟩ := hc
  refine ⟨_, h _ _ _ pa pb pc, fun B F H σ ρ Q R er bq t k => ?_⟩
  refine chain_go hs hs' ga gb gc B F H σ ρ _ (fun x H1 => ∃ d, x = .bl d ∧ R d H1) er (by omega) t fun s u F' H' cq ⟨c, e, q⟩ r => ?_
  subst e
  exact ⟨c, bool_of r.sr, k c F' H' (by omega) q r.toExt⟩
/-! ### ord -/
def fOrd : FC := fun ss Q => ∃ c : Nat, ss = [.v (.str ⟨#[c]⟩)] ∧ Q (.v (.int (c : Nat)))
theorem cs_ord : CallS K (fun xs H Q => ∃ x, xs = [.str x] ∧ x.length = 1 ∧ Q (.int (x.cps.getD 0 0 : Nat)) H) fOrd := by
  intro F H us ss Q R fo al ⟨c, e, q⟩ k
  subst e
  obtain ⟨u, rfl, h⟩ := ah1 al
  rw [str_of h]
  exact ⟨_, rfl, rfl, k _ _ F H q (fun _ _ z => nomatch z) (.same fo (.int _))⟩
/-- tuple(range(n)) -/
def vTupR (t : TV) : TV := fun ρ Q => t ρ fun s => ∃ n : Nat, s = .v (.int n) ∧ n ≤ 100000 ∧ Q (.v (.tuple ((List.range n).map fun i => .int (i : Nat))))
theorem ve_tupR {κ1 : Nat} {f e : Expr} {t : TV} (h : ∀ te, PE X e te → PE X f (tTupRgN (tRg1 te))) (he : VE X e t κ1) : VE X f (vTupR t) κ1 := by
  obtain ⟨te, pe, g⟩ := he
  refine ⟨_, h te pe, fun B F H σ ρ Q R er bq q k => ?_⟩
  refine g B F H σ ρ _ _ er (by omega) q fun s u F' H' cq ⟨n, e1, hn, q⟩ x => ?_
  subst e1
  refine ⟨n, int_of x.sr, ⟨by decide, by decide, by omega, by omega, by omega⟩, fun p o nd hp => k _ _ _ _ (by omega) q ((PRes.newT (ds := (List.range n).map fun i => .int (i : Nat)) x.dm nd hp ?_).res x.toExt fun _ _ z => nomatch z)⟩
  have e2 : rgV 0 n = ((List.range n).map fun i => ((i : Nat) : Int)).map V.int := by
    unfold rgV
    simp
  rw [e2, show (List.range n).map (fun i => PyData.int ((i : Nat) : Int)) = ((List.range n).map fun i => ((i : Nat) : Int)).map PyData.int from by rw [List.map_map]; rfl]
  exact RA.ints _
end
end VL
namespace VL
open PySem PySem.Spec PyProof.Rows L2 VG

/-! ### a dict of the module, texts for keys -/
def EntKV (e : DictEntry) (kv : Str × V) : Prop := (∃ t, e.key = .str kv.1 t) ∧ RelV kv.2 e.val
structure KD (K : PySem.W.Frag) (w : World) (d : Addr) (kvs : List (Str × V)) : Prop where
  ex : ∃ (es : Array DictEntry) (n : Nat), KDict K w d es n ∧ Paired EntKV es.toList kvs
def sFind {α : Type} (kvs : List (Str × α)) (z : Str) : Option α := (kvs.find? fun kv => kv.1 == z).map (·.2)
theorem isStr_key {v : Value} {x : Str} {t : Tok} (h : v = .str x t) (z : Str) : v.isStr z = (x == z) := by
  subst h
  unfold Value.isStr
  by_cases e : x = z
  · subst e; simp
  · simp [e]
theorem kd_find {z : Str} : ∀ {es : List DictEntry} {kvs : List (Str × V)}, Paired EntKV es kvs → (es.find? (·.key.isStr z) = none ∧ sFind kvs z = none) ∨ ∃ e v, es.find? (·.key.isStr z) = some e ∧ sFind kvs z = some v ∧ RelV v e.val
  | _, _, .nil => .inl ⟨rfl, rfl⟩
  | e :: es, kv :: kvs, .cons ⟨⟨t, h1⟩, h2⟩ r => by
    have ih := kd_find (z := z) r
    unfold sFind at ih ⊢
    rw [List.find?_cons, List.find?_cons, isStr_key h1]
    cases hz : kv.1 == z with
    | true => exact .inr ⟨e, kv.2, rfl, rfl, h2⟩
    | false => exact ih
theorem kd_noref {v : Value} {x : Str} {t : Tok} (h : v = .str x t) {e : DictEntry} (he : e.key = v) : e.refKey = false := by
  subst h
  unfold DictEntry.refKey
  rw [he]
theorem kd_norefs : ∀ {es : List DictEntry} {kvs : List (Str × V)}, Paired EntKV es kvs → es.any (·.refKey) = false
  | _, _, .nil => rfl
  | e :: es, kv :: kvs, .cons ⟨⟨t, h1⟩, h2⟩ r => by
    rw [List.any_cons, kd_norefs r, kd_noref (v := e.key) h1 rfl]; rfl
section
variable {X : Cx} {d : Addr} {kvs : List (Str × V)}
theorem kd_ns {K : PySem.W.Frag} {es : Array DictEntry} {n : Nat} (at_ : K.lookup d = some ⟨.type "dict", none, .dict es n, #[]⟩) (p : Paired EntKV es.toList kvs) (z : Str) :
    (PySem.W.nsIn K d z = some none ∧ sFind kvs z = none) ∨ ∃ u v, PySem.W.nsIn K d z = some (some u) ∧ sFind kvs z = some v ∧ RelV v u := by
  unfold PySem.W.nsIn
  rw [at_]
  rcases kd_find (z := z) p with ⟨h1, h2⟩ | ⟨e, v, h1, h2, h3⟩
  · refine .inl ⟨?_, h2⟩
    simp only [h1, kd_norefs p]
    rfl
  · exact .inr ⟨e.val, v, by simp only [h1], h2, h3⟩
/-- x in D -/
def tKIn (neg : Bool) (kvs : List (Str × V)) (te : TE) : TE := fun σ H Q => te σ H fun x H1 => ∃ z, x = .str z ∧ Q (.bl (if neg then !(sFind kvs z).isSome else (sFind kvs z).isSome)) H1
theorem or_kin (D : KD X.K X.w d kvs) : OpR X (compareOp .In) (fun x y H Q => ∃ z, x = .str z ∧ y = .ref d ∧ Q (.bl (sFind kvs z).isSome) H) := by
  obtain ⟨es, n, D, p⟩ := D.ex
  intro pins s σ H x y v u Q I rx ry h
  obtain ⟨z, rfl, rfl, q⟩ := h
  refine op_in_kd D pins s σ H _ _ v u Q I rx ry ?_
  rcases kd_ns D.at_ p z with ⟨h1, h2⟩ | ⟨u0, v0, h1, h2, _⟩
  · rw [h2] at q; exact ⟨z, none, rfl, rfl, h1, q⟩
  · rw [h2] at q; exact ⟨z, some u0, rfl, rfl, h1, q⟩
theorem or_knotin (D : KD X.K X.w d kvs) : OpR X (compareOp .NotIn) (fun x y H Q => ∃ z, x = .str z ∧ y = .ref d ∧ Q (.bl (!(sFind kvs z).isSome)) H) := by
  obtain ⟨es, n, D, p⟩ := D.ex
  intro pins s σ H x y v u Q I rx ry h
  obtain ⟨z, rfl, rfl, q⟩ := h
  refine op_notIn_kd D pins s σ H _ _ v u Q I rx ry ?_
  rcases kd_ns D.at_ p z with ⟨h1, h2⟩ | ⟨u0, v0, h1, h2, _⟩
  · rw [h2] at q; exact ⟨z, none, rfl, rfl, h1, q⟩
  · rw [h2] at q; exact ⟨z, some u0, rfl, rfl, h1, q⟩
theorem ix_kd (D : KD X.K X.w d kvs) : IxR X (fun x y H Q => ∃ z v, x = .ref d ∧ y = .str z ∧ sFind kvs z = some v ∧ Q v H) := by
  obtain ⟨es, n, D, p⟩ := D.ex
  intro value slice pins s σ H x y v u Q I rx ry h hs
  obtain ⟨z, v0, rfl, rfl, e, q⟩ := h
  refine ix_kdict value slice pins s σ H _ _ v u Q I rx ry ?_ hs
  rcases kd_ns D.at_ p z with ⟨h1, h2⟩ | ⟨u0, v1, h1, h2, h3⟩
  · rw [h2] at e; cases e
  · rw [h2] at e
    cases e
    exact ⟨d, z, v0, rfl, rfl, ⟨es, n, u0, D.at_, D.lit, h1, h3⟩, q⟩
/-- over values: kds the dict's values as data -/
def vKIn (neg : Bool) (kds : List (Str × PyData)) (t : TV) : TV := fun ρ Q => t ρ fun s => ∃ z, s = .v (.str z) ∧ Q (.v (.bool (if neg then !(sFind kds z).isSome else (sFind kds z).isSome)))
def vKGet (kds : List (Str × PyData)) (t : TV) : TV := fun ρ Q => t ρ fun s => ∃ z e, s = .v (.str z) ∧ sFind kds z = some e ∧ Q (.v e)
/-- the values stand for data, whatever the heap -/
def KDs (K : PySem.W.Frag) (kvs : List (Str × V)) (kds : List (Str × PyData)) : Prop := Paired (fun kv kd => kv.1 = kd.1 ∧ ∀ F H, R1 K F H kv.2 kd.2) kvs kds
theorem kds_find {K : PySem.W.Frag} {z : Str} : ∀ {kvs : List (Str × V)} {kds : List (Str × PyData)}, KDs K kvs kds → (sFind kvs z = none ∧ sFind kds z = none) ∨ ∃ v e, sFind kvs z = some v ∧ sFind kds z = some e ∧ ∀ F H, R1 K F H v e
  | _, _, .nil => .inl ⟨rfl, rfl⟩
  | kv :: kvs, kd :: kds, .cons ⟨h1, h2⟩ r => by
    have ih := kds_find (z := z) r
    unfold sFind at ih ⊢
    rw [List.find?_cons, List.find?_cons, h1]
    cases hz : kd.1 == z with
    | true => exact .inr ⟨_, _, rfl, rfl, h2⟩
    | false => exact ih
variable {kds : List (Str × PyData)} {e c : Expr} {t : TV} {pos : Pos}
theorem kin_go {κ : Nat} {g : Bool → Bool} {te : TE} (kk : KDs X.K kvs kds) (ge : RE X t κ te)
    (B : Bas) (F : FS) (H : Hp) (σ : Hs) (ρ : VL.Env) (Q : SV → Prop) (R : L2.VK) (er : ER X.K B F H σ ρ) (bq : F.ck + κ ≤ LIM) (q : t ρ fun s => ∃ z, s = .v (.str z) ∧ Q (.v (.bool (g (sFind kds z).isSome)))) (k : ∀ s u (F' : FS) H', F'.ck ≤ F.ck + κ → Q s → Res X.K ρ F H F' H' s u → R u H') :
    tOp (fun x y H Q => ∃ z, x = .str z ∧ y = .ref d ∧ Q (.bl (g (sFind kvs z).isSome)) H) te (tC (.ref d)) σ H R := by
  refine ge B F H σ ρ _ _ er bq q fun s u F' H' cq ⟨z, e1, q⟩ x => ?_
  subst e1
  refine ⟨z, str_of x.sr, rfl, ?_⟩
  have : (sFind kvs z).isSome = (sFind kds z).isSome := by
    rcases kds_find (z := z) kk with ⟨h1, h2⟩ | ⟨v, e, h1, h2, _⟩ <;> rw [h1, h2] <;> rfl
  rw [this]
  exact k _ _ F' H' cq q ⟨x.toExt, .bl _, trivial⟩
theorem ve_kin {κ1 : Nat} (D : KD X.K X.w d kvs) (kk : KDs X.K kvs kds) (he : VE X e t κ1) (pc : PE X c (tC (.ref d))) (hm : behindInMarks .In c = false) : VE X (.Compare e [.In] [c] pos) (vKIn false kds t) κ1 := by
  obtain ⟨te, pe, ge⟩ := he
  exact ⟨_, pe_cmpR (or_kin D) pe pc hm, fun B F H σ ρ Q R er bq q k => kin_go (g := fun b => b) kk ge B F H σ ρ Q R er bq q k⟩
theorem ve_knotin {κ1 : Nat} (D : KD X.K X.w d kvs) (kk : KDs X.K kvs kds) (he : VE X e t κ1) (pc : PE X c (tC (.ref d))) (hm : behindInMarks .NotIn c = false) : VE X (.Compare e [.NotIn] [c] pos) (vKIn true kds t) κ1 := by
  obtain ⟨te, pe, ge⟩ := he
  exact ⟨_, pe_cmpR (or_knotin D) pe pc hm, fun B F H σ ρ Q R er bq q k => kin_go (g := fun b => !b) kk ge B F H σ ρ Q R er (by omega) q k⟩
theorem vt_kin {κ1 : Nat} (D : KD X.K X.w d kvs) (kk : KDs X.K kvs kds) (he : VE X e t κ1) (pc : PE X c (tC (.ref d))) (hm : behindInMarks .In c = false) : VT X (.Compare e [.In] [c] pos) (vTest (vKIn false kds t)) κ1 := by
  obtain ⟨te, pe, ge⟩ := he
  refine ⟨_, pt_cmpR (or_kin D) pe pc hm, fun B F H σ ρ Q R er bq q k => ?_⟩
  refine kin_go (g := fun b => b) kk ge B F H σ ρ (fun s => ∃ b, s = .v (.bool b) ∧ Q b) (fun x H1 => ∃ d, x = .bl d ∧ R d H1) er (by omega) q fun s u F' H' cq ⟨c, e, q⟩ r => ?_
  subst e
  exact ⟨c, bool_of r.sr, k c F' H' (by omega) q r.toExt⟩
theorem vt_knotin {κ1 : Nat} (D : KD X.K X.w d kvs) (kk : KDs X.K kvs kds) (he : VE X e t κ1) (pc : PE X c (tC (.ref d))) (hm : behindInMarks .NotIn c = false) : VT X (.Compare e [.NotIn] [c] pos) (vTest (vKIn true kds t)) κ1 := by
  obtain ⟨te, pe, ge⟩ := he
  refine ⟨_, pt_cmpR (or_knotin D) pe pc hm, fun B F H σ ρ Q R er bq q k => ?_⟩
  refine kin_go (g := fun b => !b) kk ge B F H σ ρ (fun s => ∃ b, s = .v (.bool b) ∧ Q b) (fun x H1 => ∃ d, x = .bl d ∧ R d H1) er (by omega) q fun s u F' H' cq ⟨c, e, q⟩ r => ?_
  subst e
  exact ⟨c, bool_of r.sr, k c F' H' (by omega) q r.toExt⟩
/-- D[x] -/
theorem ve_kget {κ1 : Nat} (D : KD X.K X.w d kvs) (kk : KDs X.K kvs kds) (he : VE X e t κ1) (pc : PE X c (tC (.ref d))) (hx : PlainIx e) : VE X (.Subscript c e pos) (vKGet kds t) κ1 := by
  obtain ⟨te, pe, ge⟩ := he
  refine ⟨_, pe_ix (ix_kd D) pc pe hx, fun B F H σ ρ Q R er bq q k => ?_⟩
  refine ge B F H σ ρ _ _ er (by omega) q fun s u F' H' cq ⟨z, e0, e1, e2, q⟩ x => ?_
  subst e1
  rcases kds_find (z := z) kk with ⟨h1, h2⟩ | ⟨v, e, h1, h2, h3⟩
  · rw [h2] at e2; cases e2
  · rw [h2] at e2
    cases e2
    exact ⟨z, v, rfl, str_of x.sr, h1, k _ _ F' H' (by omega) q ⟨x.toExt, h3 F' H', trivial⟩⟩
end
/-! ### a def out of a dict: check = D[k]; return check(e) -/
/-- the promises of defs by their names -/
structure Hld (P : Program) (w : World) (K : PySem.W.Frag) (mg : Str → Option Value) (base : Heap) (k : Nat) (f : Addr) (n κ : Nat) (tf : TF) : Prop where
  ex : ∃ (fd : FuncData) (ps : List Str), GOk P w K mg base CX0 k f fd ps (spOf K n κ tf) ∧ PySem.W.keepIn K (.ref f) = true ∧ Binds K fd ps []
def Hlds (P : Program) (w : World) (K : PySem.W.Frag) (mg : Str → Option Value) (base : Heap) (k n κ : Nat) (kvs : List (Str × V)) (fs : List (Str × TF)) : Prop := Paired (fun kv nf => kv.1 = nf.1 ∧ ∃ f, kv.2 = .ref f ∧ Hld P w K mg base k f n κ nf.2) kvs fs
theorem hlds_find {P : Program} {w : World} {K : PySem.W.Frag} {mg : Str → Option Value} {base : Heap} {k n κ : Nat} {z : Str} : ∀ {kvs : List (Str × V)} {fs : List (Str × TF)}, Hlds P w K mg base k n κ kvs fs →
    (sFind kvs z = none ∧ sFind fs z = none) ∨ ∃ f tf, sFind kvs z = some (.ref f) ∧ sFind fs z = some tf ∧ Hld P w K mg base k f n κ tf
  | _, _, .nil => .inl ⟨rfl, rfl⟩
  | kv :: kvs, nf :: fs, .cons ⟨h1, f, h2, h3⟩ r => by
    have ih := hlds_find (z := z) r
    unfold sFind at ih ⊢
    rw [List.find?_cons, List.find?_cons, h1]
    cases hz : nf.1 == z with
    | true => exact .inr ⟨f, nf.2, by rw [← h2]; rfl, rfl, h3⟩
    | false => exact ih
section
variable {X : Cx} {k n κ i : Nat} {x : Str} {p pos : Pos} {e : Expr} {es : List Expr} {ta : TA}
/-- a local name's def is called -/
theorem gp_callL (hr : Room k X.A) (gd : Still X.A) (hN : X.N[i]? = some x) (hv : Vis X.env.scope x) (ha : PA X (e :: es) ta)
    (hdb : (x == ("__debug__" : Str)) = false := by decide) (hcd : (x == ("__classdict__" : Str)) = false := by decide)
    (he : starEach (e :: es) X.env = (false, eval e X.env) :: starEach es X.env := by rfl) (hpl : (backTo pos (starEach es X.env)).any (·.1) = false := by rfl) :
    PE X (.Call (.Name x p) (e :: es) [] pos) (fun σ H Q => ∃ f tf, σ[i]? = some (some (.ref f)) ∧ Hld X.prog X.w X.K X.mg X.base k f n κ tf ∧ ta σ H fun vs H1 => spOf X.K n κ tf vs H1 Q E0) := by
  refine ⟨fun pins s σ H Q I h => ?_⟩
  obtain ⟨f, tf, hs, A, ht⟩ := h
  obtain ⟨fd, ps, F, hk, hb⟩ := A.ex
  refine wpAny_Call_Name_kw (thn ((pe_var (pos := p) hN hv hdb hcd).run pins s σ H (fun v H1 => v = .ref f ∧ H1 = H) I ⟨.ref f, hs, rfl, rfl⟩) fun u s1 q => ?_)
  obtain ⟨v, H1, I1, r1, q1⟩ := q
  obtain ⟨rfl, rfl⟩ := q1
  cases r1
  refine PySem.W.callWith_K (h₀ := X.base) I.ok.mod.kin hk (thn (ha.run pos pins s1 σ _ _ I1 ht) fun us s2 q => ?_) he hpl
  obtain ⟨vs, H2, I2, r, q⟩ := q
  have bt := hb s2 us I2.kIn
  rw [List.append_nil] at bt
  exact ⟨I2.kIn, go_fn (kw := []) F hr gd bt pass0 I2 r q⟩
variable {kvs : List (Str × V)} {fs : List (Str × TF)} {d : Addr} {t : TV} {ts : TVs} {c o : Expr} {st : Stmt}
/-- check = D[k]; return check(e, ..) -/
def vDisp (i : Nat) (fs : List (Str × TF)) (n : Nat) (t : TV) (ts : TVs) : TVS := fun E ρ => t ρ fun s => ∃ z tf, s = .v (.str z) ∧ sFind fs z = some tf ∧ i < ρ.length ∧ ts (ρ.set i .un) fun ss => TapsOld (ρ.set i .un) ss ∧ ∃ zs, hands ss = some zs ∧ zs.length = n ∧ tf zs fun s => ∃ z, s.hand = some z ∧ E.rt z
theorem vss_disp {κ1 κ2 : Nat} {p p2 p3 : Pos} (D : KD X.K X.w d kvs) (hh : Hlds X.prog X.w X.K X.mg X.base k n κ kvs fs) (hr : Room k X.A) (gd : Still X.A) (hN : X.N[i]? = some x) (hv : Vis X.env.scope x) (ho : VE X o t κ1) (pc : PE X c (tC (.ref d))) (hx : PlainIx o)
    (h : ∀ te, PE X (.Subscript c o p) te → PS X st (tAsg te (gName i))) (ha : VA X (e :: es) ts κ2)
    (hdb : (x == ("__debug__" : Str)) = false := by decide) (hcd : (x == ("__classdict__" : Str)) = false := by decide)
    (he : starEach (e :: es) X.env = (false, eval e X.env) :: starEach es X.env := by rfl) (hpl : (backTo pos (starEach es X.env)).any (·.1) = false := by rfl) :
    VSs X [st, .Return (some (.Call (.Name x p2) (e :: es) [] pos)) p3] (vDisp i fs n t ts) (κ1 + κ2 + κ) := by
  obtain ⟨te, pe, ge⟩ := ho
  obtain ⟨ta, pa, ga⟩ := ha
  refine ⟨_, pss_cons (h _ (pe_ix (ix_kd D) pc pe hx)) (pss_one (ps_ret (gp_callL (n := n) (κ := κ) hr gd hN hv pa hdb hcd he hpl))), fun B F H σ ρ E D er bq q kk => ?_⟩
  refine ge B F H σ ρ _ _ er (by omega) q fun s u F1 H1 cq ⟨z, tf, e1, e2, hl, q⟩ x => ?_
  subst e1
  rcases hlds_find (z := z) hh with ⟨h1, h2⟩ | ⟨f, tf', h1, h2, h3⟩
  · rw [h2] at e2; cases e2
  · rw [h2] at e2
    cases e2
    refine ⟨z, .ref f, rfl, str_of x.sr, h1, ?_⟩
    have er1 : ER X.K B F1 H1 (σ.set i (some (.ref f))) (ρ.set i .un) := er.set (s := .un) ⟨x.toExt, trivial, trivial⟩ (fun _ _ z => nomatch z) i
    refine ⟨f, tf, by rw [List.getElem?_set_self (by rw [er.len]; exact hl)], h3, ?_⟩
    refine ga B F1 H1 _ _ _ _ er1 (by omega) q fun ss us F2 H2 cq ⟨ol, zs, ez, hn, q⟩ x2 al => ?_
    have := call_go (dss := []) (vs := []) x2 al ol ez (fun _ _ => .nil) (n := n) (κ := κ) (by simpa using hn) (by omega) (tf := tf) (Q := fun s => ∃ z, s.hand = some z ∧ E.rt z) (by simpa using q) (R := D.rt) fun s u F' H' c3 ⟨z, e1, q⟩ x => by
      obtain ⟨F3, ce, x3, _⟩ := x.hand e1
      exact kk.rt z u F3 H' (by omega) q (hand_nb e1) (er1.fin x3)
    rwa [List.append_nil] at this
end
/-! ### {k: e, ..}, written keys -/
theorem put_new {kvs : List (L2.Key × V)} {k : L2.Key} {v : V} (h : k ∉ kvs.map (·.1)) : putK kvs k v = kvs ++ [(k, v)] := by
  unfold putK
  have : (kvs.any fun kv => decide (kv.1 = k)) = false := by
    rw [List.any_eq_false]
    intro kv hk
    simp only [decide_eq_true_eq]
    exact fun e => h (List.mem_map.mpr ⟨kv, hk, e⟩)
  rw [this, if_neg (by decide)]
theorem merge_new : ∀ (more kvs : List (L2.Key × V)), ((kvs ++ more).map (·.1)).Nodup → mergeK kvs more = kvs ++ more
  | [], kvs, _ => by rw [List.append_nil]; rfl
  | kv :: more, kvs, h => by
    show mergeK (putK kvs kv.1 kv.2) more = _
    have hn : kv.1 ∉ kvs.map (·.1) := by
      rw [List.map_append, List.map_cons, List.nodup_append] at h
      exact fun z => h.2.2 _ z _ (List.mem_cons_self ..) rfl
    rw [put_new hn, merge_new more _ (by simpa using h)]
    simp
section
variable {X : Cx}
def vPairs : List (L2.Key × TV) → VL.Env → (List (L2.Key × PyData) → Prop) → Prop
  | [], _, Q => Q []
  | (k, t) :: r, ρ, Q => t ρ fun s => ∃ d, s = .v d ∧ vPairs r ρ fun ps => Q ((k, d) :: ps)
def kC (k : L2.Key) : TE := tC (kV k)
theorem pairs_go {p : Addr} : ∀ (kts : List (L2.Key × TV)) (tes : List TE), Paired (fun kt te => RE X kt.2 0 te) kts tes →
    ∀ B F H σ ρ (Q : List (L2.Key × PyData) → Prop) (R : List (V × V) → Hp → Prop), ER X.K B F H σ ρ → F.ck ≤ LIM → H p = some (.dK []) → ¬ cellsOf ρ p → vPairs kts ρ Q →
      (∀ (ps : List (L2.Key × PyData)) (us : List (L2.Key × V)) (F' : FS) H', F'.ck ≤ F.ck → Q ps → Ext ρ F H F' H' → H' p = some (.dK []) → us.map (·.1) = ps.map (·.1) → ps.map (·.1) = kts.map (·.1) → RA X.K F' H' (us.map (·.2)) (ps.map (·.2)) → R (us.map fun kv => (kV kv.1, kv.2)) H') →
      tPairs ((kts.zip tes).map fun q => (kC q.1.1, q.2)) σ H R
  | [], [], _, B, F, H, σ, ρ, Q, R, er, bq, hp, nc, q, k => k [] [] F H (Nat.le_refl _) q er.refl hp rfl rfl .nil
  | (ky, t) :: kts, te :: tes, .cons h1 hr, B, F, H, σ, ρ, Q, R, er, bq, hp, nc, q, k => by
    show kC ky σ H fun x H1 => te σ H1 fun y H2 => tPairs _ σ H2 fun ps H3 => R ((x, y) :: ps) H3
    refine h1 B F H σ ρ _ _ er bq q fun s u F1 H1 c1 ⟨d, e1, q1⟩ x => ?_
    subst e1
    have hp1 := x.st.kp p _ hp nc
    refine pairs_go kts tes hr B F1 H1 σ ρ _ _ (er.step x.toExt) (by omega) hp1 nc q1 fun ps us F2 H2 c2 q2 x2 hp2 e1 e2 ra => ?_
    have := k ((ky, d) :: ps) ((ky, u) :: us) F2 H2 (by omega) q2 (x.toExt.trans x2) hp2 (by simp [e1]) (by simp [e2]) (.cons (Rp.mono x2.st.toFM (show R1 X.K F1 H1 u d from x.sr)) ra)
    exact this
/-- a dict that stays -/
def vDsp (kts : List (L2.Key × TV)) : TV := fun ρ Q => vPairs kts ρ fun kvs => Q (.dct kvs)
theorem ve_dsp {f : Expr} {kts : List (L2.Key × TV)} {tes : List TE} (h : PE X f (tDisp ((kts.zip tes).map fun q => (kC q.1.1, q.2)))) (hk : (kts.map (·.1)).Nodup) (hl : kts.length ≤ 15)
    (hp : Paired (fun kt te => RE X kt.2 0 te) kts tes) : VE X f (vDsp kts) 0 := by
  refine ⟨_, h, fun B F H σ ρ Q R er bq q k p hpn => ?_⟩
  have x0 : Ext ρ F H F (upd H p (.dK [])) := er.refl.pure (Stp.new hpn) (er.dm.new hpn)
  have nc : ¬ cellsOf ρ p := fun c => er.refl.cp p c hpn
  refine pairs_go kts tes hp B F _ σ ρ _ _ (er.step x0) bq upd_same nc q fun ps us F1 H1 c1 q1 x1 hp1 e1 e2 ra => ⟨hp1, us, rfl, ?_, ?_⟩
  · have a1 := congrArg List.length e1
    have a2 := congrArg List.length e2
    simp only [List.length_map] at a1 a2
    omega
  · rw [merge_new us [] (by rw [List.nil_append, e1, e2]; exact hk), List.nil_append]
    have nf : ¬ F1 p := fun z => by
      rcases x1.st.nw p z with w | w
      · obtain ⟨o, w, _⟩ := er.dm p w
        rw [hpn] at w; cases w
      · rw [upd_same] at w; cases w
    have keep : ∀ b o, H1 b = some o → b ≠ p → upd H1 p (.dK us) b = some o := fun b o e n => by rw [upd_ne n]; exact e
    have x01 := x0.trans x1
    have st : Stp (cellsOf ρ) F (F1.or (fun x => x = p)) H (upd H1 p (.dK us)) := by
      have m := x01.st.mut (o := .dK us) hpn
      exact m.frz (N := fun x => x = p) fun x e => by rw [e]; exact hpn
    have fm : FM F1 (F1.or (fun x => x = p)) H1 (upd H1 p (.dK us)) := by
      refine ⟨fun _ f => .inl f, fun a o f e => keep a o e (fun z => nf (by rw [← z]; exact f)), fun a xs e => keep a _ e (fun z => ?_), fun a o u e => keep a _ e (fun z => ?_)⟩
      · rw [z, hp1] at e; cases e
      · rw [z, hp1] at e; cases e
    refine k _ _ (F1.or (fun x => x = p)) _ (by omega) q1 ⟨⟨st, fun a f => ?_, fun i a ns hc => ?_, er.refl.cp⟩, ⟨p, us, rfl, .inl ⟨.inr rfl, upd_same⟩, e1, Rp.mono fm ra⟩, trivial⟩
    · rcases f with f | rfl
      · obtain ⟨o, e, l⟩ := x01.dm a f
        exact ⟨o, keep a o e (fun z => nf (by rw [← z]; exact f)), l⟩
      · exact ⟨_, upd_same, .dct⟩
    · obtain ⟨nf', c', j, l, n, c1, c2, c3, c4⟩ := x01.cl i a ns hc
      have n1 : a ≠ p := fun z => nc (by rw [← z]; exact ⟨i, ns, hc⟩)
      have n2 : c' ≠ p := fun z => nf (by rw [← z]; exact c2)
      exact ⟨fun z => z.elim nf' n1, c', j, l, n, keep _ _ c1 n1, .inl c2, keep _ _ c3 n2, c4⟩
end
/-! ### zip -/
def zipD (ds es : List PyData) : List PyData := (ds.zip es).map fun q => .tuple [q.1, q.2]
section
variable {X : Cx} {K : PySem.W.Frag} {F1 : FS} {H1 : Hp}
theorem zipD_at {ds es : List PyData} {i : Nat} {d : PyData} (h : (zipD ds es)[i]? = some d) : ∃ x y, ds[i]? = some x ∧ es[i]? = some y ∧ d = .tuple [x, y] := by
  unfold zipD at h
  rw [List.getElem?_map] at h
  rcases e : (ds.zip es)[i]? with _ | q
  · rw [e] at h; cases h
  · rw [e] at h
    cases h
    rw [List.getElem?_zip_eq_some] at e
    exact ⟨_, _, e.1, e.2, rfl⟩
theorem wk_zipT {a b : Addr} {xs ys : List V} {ds es : List PyData} (h : SqT K H1 a xs) (r : RA K F1 H1 xs ds) (h' : SqT K H1 b ys) (r' : RA K F1 H1 ys es) : Wk true (RZ.ItzT K a b) K (zipD ds es) F1 H1 where
  go := fun i F H m d hi => by
    have l1 := r.len
    have l2 := r'.len
    have hi : i < min ds.length es.length := by simpa [zipD] using hi
    exact ⟨xs, ys, xs[i]'(by omega), ys[i]'(by omega), m.sqt h, m.sqt h', List.getElem?_eq_getElem (by omega), List.getElem?_eq_getElem (by omega)⟩
  yld := fun i F H x H' d m fo hd y => by
    obtain ⟨T, x1, y1, rfl, hT, rfl, hx, hy⟩ := y
    obtain ⟨dx, dy, e1, e2, rfl⟩ := zipD_at hd
    obtain ⟨v, q1, q2⟩ := r.get e1
    obtain ⟨w, q3, q4⟩ := r'.get e2
    rw [hx xs (m.sqt h)] at q1
    rw [hy ys (m.sqt h')] at q3
    cases q1
    cases q3
    have st : Stp (fun _ => False) F F H (upd H T (.tup [x1, y1])) := Stp.new hT
    have m2 := m.trans st.toFM
    exact ⟨F, rfl, st, fo.new hT, .inr ⟨rfl, _, _, _, rfl, rfl, SqT.of upd_same, (.cons (Rp.mono m2 q2) (.cons (Rp.mono m2 q4) .nil))⟩⟩
  stop := fun F H m _ => by
    have l1 := r.len
    have l2 := r'.len
    have hz : (zipD ds es).length = min ds.length es.length := by simp [zipD]
    refine ⟨xs, ys, m.sqt h, m.sqt h', ?_⟩
    rw [hz]
    omega
theorem wk_zipL {a b : Addr} {xs ys : List V} {ds es : List PyData} (f : F1 a) (h : H1 a = some (.lst xs)) (r : RA K F1 H1 xs ds) (f' : F1 b) (h' : H1 b = some (.lst ys)) (r' : RA K F1 H1 ys es) : Wk true (Itz K a b) K (zipD ds es) F1 H1 where
  go := fun i F H m d hi => by
    have l1 := r.len
    have l2 := r'.len
    have hi : i < min ds.length es.length := by simpa [zipD] using hi
    exact ⟨xs, ys, xs[i]'(by omega), ys[i]'(by omega), SqL.of (m.fk _ _ f h), SqL.of (m.fk _ _ f' h'), List.getElem?_eq_getElem (by omega), List.getElem?_eq_getElem (by omega)⟩
  yld := fun i F H x H' d m fo hd y => by
    obtain ⟨T, x1, y1, rfl, hT, rfl, hx, hy⟩ := y
    obtain ⟨dx, dy, e1, e2, rfl⟩ := zipD_at hd
    obtain ⟨v, q1, q2⟩ := r.get e1
    obtain ⟨w, q3, q4⟩ := r'.get e2
    rw [hx xs (SqL.of (m.fk _ _ f h))] at q1
    rw [hy ys (SqL.of (m.fk _ _ f' h'))] at q3
    cases q1
    cases q3
    have st : Stp (fun _ => False) F F H (upd H T (.tup [x1, y1])) := Stp.new hT
    have m2 := m.trans st.toFM
    exact ⟨F, rfl, st, fo.new hT, .inr ⟨rfl, _, _, _, rfl, rfl, SqT.of upd_same, (.cons (Rp.mono m2 q2) (.cons (Rp.mono m2 q4) .nil))⟩⟩
  stop := fun F H m _ => by
    have l1 := r.len
    have l2 := r'.len
    have hz : (zipD ds es).length = min ds.length es.length := by simp [zipD]
    refine ⟨xs, ys, SqL.of (m.fk _ _ f h), SqL.of (m.fk _ _ f' h'), ?_⟩
    rw [hz]
    omega
def vZip (t : TVs) : TVl := fun ρ Q => t ρ fun ss => ∃ ds es, (ss = [.v (.tuple ds), .v (.tuple es)] ∨ ss = [.v (.list ds), .v (.list es)]) ∧ Q (zipD ds es)
theorem vi_zip {κ1 : Nat} {tg l : Expr} {es : List Expr} {t : TVs} (hz : ∀ ta, PA X es ta → PI X tg l (RZ.iZipA X.K ta)) (h : VA X es t κ1) : VI true X tg l (vZip t) κ1 := by
  obtain ⟨ta, pa, g⟩ := h
  refine ⟨_, hz ta pa, fun B F H σ ρ Q R er bq t k => ?_⟩
  refine g B F H σ ρ _ _ er (by omega) t fun ss us F1 H1 cq ⟨ds, es, e, q⟩ x al => ?_
  rcases e with e | e
  · subst e
    match us, al with
    | [u, w], ⟨r1, _, r2, _, _⟩ =>
      cases (show R1 X.K F1 H1 u _ from r1) with
      | tup h1 q1 =>
        cases (show R1 X.K F1 H1 w _ from r2) with
        | tup h2 q2 => exact ⟨_, _, _, _, rfl, .inr ⟨h1.t, h2.t, k _ _ F1 H1 (by omega) q x (wk_zipT h1.t q1 h2.t q2)⟩⟩
  · subst e
    match us, al with
    | [u, w], ⟨r1, _, r2, _, _⟩ =>
      cases (show R1 X.K F1 H1 u _ from r1) with
      | lst f1 h1 q1 =>
        cases (show R1 X.K F1 H1 w _ from r2) with
        | lst f2 h2 q2 => exact ⟨_, _, _, _, rfl, .inl ⟨SqL.of h1, SqL.of h2, k _ _ F1 H1 (by omega) q x (wk_zipL f1 h1 q1 f2 h2 q2)⟩⟩
end
theorem ex_k {X : Cx} {body : List Stmt} {t : TVS} {κ κ' : Nat} (h : VSs X body t κ') (hk : κ' ≤ κ) : ∃ κ', κ' ≤ κ ∧ VSs X body t κ' := ⟨κ', hk, h⟩
/-! ### how these are reckoned -/
section
variable {Q : SV → Prop} {d : PyData} {ds es : List PyData} {i j : Int} {x y z : Str} {t ta tb tc : TV} {ts tk : TVs} {ρ : VL.Env} {E : VEnds} {neg : Bool} {kds : List (Str × PyData)} {c : Nat} {f g : FB}
theorem m_ltI : fLtD (.v (.int i)) (.v (.int j)) Q = Q (.v (.bool (decide (i < j)))) := (Eq.refl _).trans (Eq.refl _)
theorem m_ltS : fLtD (.v (.str x)) (.v (.str y)) Q = Q (.v (.bool (decide (x.cps.toList < y.cps.toList)))) := (Eq.refl _).trans (Eq.refl _)
theorem m_ltT : fLtD (.v (.tuple ds)) (.v (.tuple es)) Q = (PySem.W.alike (.tuple ds) (.tuple es) = true ∧ PyData.depth (.tuple ds) ≤ 60 ∧ (PyData.hasDict (.tuple ds) = false ∧ PyData.hasDict (.tuple es) = false) ∧ Q (.v (.bool (PySem.W.dataLt (.tuple ds) (.tuple es))))) := (Eq.refl _).trans (Eq.refl _)
theorem m_geI : fGeA (.v (.int i)) (.v (.int j)) Q = Q (.v (.bool (decide (j ≤ i)))) := by simp [fGeA]
theorem m_chain : vChain f g ta tb tc ρ Q = ta ρ fun a => tb ρ fun b => f a b fun s => isB s fun k => if k = true then tc ρ fun c => g b c Q else Q (.v (.bool false)) := (Eq.refl _).trans (Eq.refl _)
theorem m_ord : fOrd [.v (.str ⟨#[c]⟩)] Q = Q (.v (.int (c : Nat))) := by
  unfold fOrd
  refine propext ⟨fun ⟨c', e, h⟩ => ?_, fun h => ⟨c, rfl, h⟩⟩
  simp only [List.cons.injEq, SV.v.injEq, PyData.str.injEq, Str.mk.injEq, and_true] at e
  have : c = c' := by simpa using e
  rw [this]; exact h
theorem m_kin : vKIn neg kds t ρ Q = t ρ fun s => ∃ z, s = .v (.str z) ∧ Q (.v (.bool (if neg then !(sFind kds z).isSome else (sFind kds z).isSome))) := (Eq.refl _).trans (Eq.refl _)
theorem m_kget : vKGet kds t ρ Q = t ρ fun s => ∃ z e, s = .v (.str z) ∧ sFind kds z = some e ∧ Q (.v e) := (Eq.refl _).trans (Eq.refl _)
theorem str_ex {P : Str → Prop} : (∃ y, SV.v (.str x) = .v (.str y) ∧ P y) ↔ P x :=
  ⟨fun ⟨b, e, h⟩ => by injection e with e; injection e with e; rw [e]; exact h, fun h => ⟨x, rfl, h⟩⟩
theorem str_ex2 {α : Type} {P : Str → α → Prop} : (∃ y w, SV.v (.str x) = .v (.str y) ∧ P y w) ↔ ∃ w, P x w :=
  ⟨fun ⟨b, w, e, h⟩ => by injection e with e; injection e with e; rw [e]; exact ⟨w, h⟩, fun ⟨w, h⟩ => ⟨x, w, rfl, h⟩⟩
theorem m_tupR {t : TV} : vTupR t ρ Q = t ρ fun s => ∃ n : Nat, s = .v (.int n) ∧ n ≤ 100000 ∧ Q (.v (.tuple ((List.range n).map fun i => .int (i : Nat)))) := (Eq.refl _).trans (Eq.refl _)
theorem s_disp {i n : Nat} {fs : List (Str × TF)} : vDisp i fs n t ts E ρ = t ρ fun s => ∃ z tf, s = .v (.str z) ∧ sFind fs z = some tf ∧ i < ρ.length ∧ ts (ρ.set i .un) fun ss => TapsOld (ρ.set i .un) ss ∧ ∃ zs, hands ss = some zs ∧ zs.length = n ∧ tf zs fun s => ∃ z, s.hand = some z ∧ E.rt z := (Eq.refl _).trans (Eq.refl _)
theorem m_dsp {kts : List (L2.Key × TV)} : vDsp kts ρ Q = vPairs kts ρ fun kvs => Q (.dct kvs) := (Eq.refl _).trans (Eq.refl _)
theorem m_pairs0 {Q : List (L2.Key × PyData) → Prop} : vPairs [] ρ Q = Q [] := (Eq.refl _).trans (Eq.refl _)
theorem m_pairs1 {k : L2.Key} {r : List (L2.Key × TV)} {Q : List (L2.Key × PyData) → Prop} : vPairs ((k, t) :: r) ρ Q = t ρ fun s => ∃ d, s = .v d ∧ vPairs r ρ fun ps => Q ((k, d) :: ps) := (Eq.refl _).trans (Eq.refl _)
theorem m_zip {Q : List PyData → Prop} : vZip ts ρ Q = ts ρ fun ss => ∃ ds es, (ss = [.v (.tuple ds), .v (.tuple es)] ∨ ss = [.v (.list ds), .v (.list es)]) ∧ Q (zipD ds es) := (Eq.refl _).trans (Eq.refl _)
theorem zip_t {ds es : List PyData} {Q : List PyData → Prop} (h : Q (zipD ds es)) : ∃ ds' es', ([SV.v (.tuple ds), SV.v (.tuple es)] = [.v (.tuple ds'), .v (.tuple es')] ∨ [SV.v (.tuple ds), SV.v (.tuple es)] = [.v (.list ds'), .v (.list es')]) ∧ Q (zipD ds' es') := ⟨ds, es, .inl rfl, h⟩
theorem s_callP {n1 n2 n : Nat} {js : List Nat} {tf : TF} : vCallP n1 n2 n js tf ts tk ρ Q = ts ρ fun ss => tk ρ fun zs => TapsOld ρ (sel js (ss ++ zs)) ∧ ∃ us, hands (sel js (ss ++ zs)) = some us ∧ ss.length = n1 ∧ zs.length = n2 ∧ us.length = n ∧ tf us Q := (Eq.refl _).trans (Eq.refl _)
theorem sel_nil {α : Type} {l : List α} : sel [] l = [] := rfl
theorem sel_at {j : Nat} {js : List Nat} {α : Type} {l : List α} : sel (j :: js) l = (match l[j]? with | some x => x :: sel js l | none => sel js l) := by
  unfold sel
  rw [List.filterMap_cons]
  cases l[j]? <;> rfl
end
end VL
namespace VL
open PySem PySem.Spec PyProof.Rows L2 VG
section
variable {X : Cx} {K : PySem.W.Frag}
/-! ### str(x) -/
abbrev rStr1 : List V → Hp → L2.VK → Prop := fun xs H Q => (∃ i, xs = [.int i] ∧ i.natAbs.log2 < 1920 ∧ Q (.str (Str.ofString (toString i))) H) ∨ (∃ b, xs = [.bl b] ∧ Q (.str (if b = true then Str.ofString "True" else Str.ofString "False")) H) ∨ ∃ z, xs = [.str z] ∧ Q (.str z) H
theorem cr_strB : CallR X (.type "str") fun xs H Q => ∃ b, xs = [.bl b] ∧ Q (.str (if b = true then Str.ofString "True" else Str.ofString "False")) H := by
  intro pins s σ H xs us Q I r h
  obtain ⟨b, rfl, q⟩ := h
  obtain ⟨u, rfl, e⟩ := L2.vals1 r
  cases e
  exact P.str_of_bool ⟨.str _, H, Inv.tok I (s.toks + 1), ⟨s.toks, rfl⟩, q⟩
theorem cr_str1 : CallR X (.type "str") rStr1 := by
  intro pins s σ H xs us Q I r h
  rcases h with h | h | h
  · exact call_str_int pins s σ H xs us Q I r h
  · exact cr_strB pins s σ H xs us Q I r h
  · exact SkE.call_str_str pins s σ H xs us Q I r h
def fStr1 : FC := fun ss Q => (∃ i, ss = [.v (.int i)] ∧ i.natAbs.log2 < 1920 ∧ Q (.v (.str (Str.ofString (toString i))))) ∨ (∃ b, ss = [.v (.bool b)] ∧ Q (.v (.str (if b = true then Str.ofString "True" else Str.ofString "False")))) ∨ ∃ z, ss = [.v (.str z)] ∧ Q (.v (.str z))
theorem cs_str1 : CallS K rStr1 fStr1 := by
  intro F H us ss Q R fo al q k
  rcases q with ⟨i, e, c, q⟩ | ⟨b, e, q⟩ | ⟨z, e, q⟩
  · subst e
    obtain ⟨u, rfl, h⟩ := ah1 al
    exact .inl ⟨i, by rw [int_of h], c, k _ _ F H q (fun _ _ z => nomatch z) (.same fo (.str _))⟩
  · subst e
    obtain ⟨u, rfl, h⟩ := ah1 al
    exact .inr (.inl ⟨b, by rw [bool_of h], k _ _ F H q (fun _ _ z => nomatch z) (.same fo (.str _))⟩)
  · subst e
    obtain ⟨u, rfl, h⟩ := ah1 al
    exact .inr (.inr ⟨z, by rw [str_of h], k _ _ F H q (fun _ _ z => nomatch z) (.same fo (.str _))⟩)
/-! ### a text's method without an argument -/
def vM0 (C : Str → Prop) (g : Str → Str) (t : TV) : TV := fun ρ Q => t ρ fun s => ∃ z, s = .v (.str z) ∧ C z ∧ Q (.v (.str (g z)))
theorem ve_m0 {κ : Nat} {e o : Expr} {C : Str → Prop} {g : Str → Str} {t : TV} (h : ∀ te, PE X o te → PE X e (tM0 (fun x xs H Q => ∃ a, x = .str a ∧ xs = [] ∧ C a ∧ Q (.str (g a)) H) te)) (ho : VE X o t κ) : VE X e (vM0 C g t) κ := by
  obtain ⟨te, pe, ge⟩ := ho
  refine ⟨_, h te pe, fun B F H σ ρ Q R er bq q k => ?_⟩
  refine ge B F H σ ρ _ _ er bq q fun s u F' H' cq ⟨z, e1, c, q⟩ x => ?_
  subst e1
  have e := str_of x.sr
  exact ⟨⟨z, e⟩, z, e, rfl, c, k _ _ F' H' cq q ⟨x.toExt, .str _, trivial⟩⟩
/-! ### a dict of defs of this frame: x = {k: f, ..}; x[k] = f; x[e](e, ..) -/
theorem wpAny_Call_Sub {M : Model} {A : Around} {E : Value → Shared → Prop} {s : Shared} {env : PySem.Env} {a b : Expr} {np pos : Pos} {args : List Expr} {keywords : List Keyword} {Q : Value → Shared → Prop}
    (h : wpAny M A (eval (Expr.Subscript a b np) env) (fun f s₁ => wpAny M A (callWith pos f [] (backTo pos (starEach args env)) (backToKw pos (keywordEach keywords env))) Q E s₁) E s) :
    wpAny M A (eval ((Expr.Subscript a b np).Call args keywords pos) env) Q E s := id (wpAny_bind h)
variable {k n κ i : Nat} {p pos : Pos} {e c o : Expr} {es : List Expr} {ta tsub : TE}
theorem gp_callS {ta : TA} (hr : Room k X.A) (gd : Still X.A) (ps : PE X (.Subscript c o p) tsub) (ha : PA X (e :: es) ta)
    (he : starEach (e :: es) X.env = (false, eval e X.env) :: starEach es X.env := by rfl) (hpl : (backTo pos (starEach es X.env)).any (·.1) = false := by rfl) :
    PE X (.Call (.Subscript c o p) (e :: es) [] pos) (fun σ H Q => tsub σ H fun v H1 => ∃ f tf, v = .ref f ∧ Hld X.prog X.w X.K X.mg X.base k f n κ tf ∧ ta σ H1 fun vs H2 => spOf X.K n κ tf vs H2 Q E0) := by
  refine ⟨fun pins s σ H Q I h => ?_⟩
  refine wpAny_Call_Sub (thn (ps.run pins s σ H _ I h) fun u s1 q => ?_)
  obtain ⟨v, H1, I1, r1, f, tf, rfl, A, ht⟩ := q
  obtain ⟨fd, ps, F, hk, hb⟩ := A.ex
  cases r1
  refine PySem.W.callWith_K (h₀ := X.base) I1.ok.mod.kin hk (thn (ha.run pos pins s1 σ _ _ I1 ht) fun us s2 q => ?_) he hpl
  obtain ⟨vs, H2, I2, r, q⟩ := q
  have bt := hb s2 us I2.kIn
  rw [List.append_nil] at bt
  exact ⟨I2.kIn, go_fn (kw := []) F hr gd bt pass0 I2 r q⟩
/-- the defs of a dict by their written keys -/
def HldK (X : Cx) (k n κ : Nat) (kvs : List (L2.Key × V)) (fs : List (Str × TF)) : Prop := ∀ z tf, sFind fs z = some tf → ∃ f, valV kvs (.inr z) = some (.ref f) ∧ Hld X.prog X.w X.K X.mg X.base k f n κ tf
def vCallS (i : Nat) (kvs : List (L2.Key × V)) (fs : List (Str × TF)) (n : Nat) (t : TV) (ts : TVs) : TV := fun ρ Q => ρ[i]? = some (.fns kvs) ∧ t ρ fun s => ∃ z tf, s = .v (.str z) ∧ sFind fs z = some tf ∧ ts ρ fun ss => TapsOld ρ ss ∧ ∃ zs, hands ss = some zs ∧ zs.length = n ∧ tf zs Q
theorem ve_callS {κ1 κ2 : Nat} {kvs : List (L2.Key × V)} {fs : List (Str × TF)} {t : TV} {ts : TVs} (hh : HldK X k n κ kvs fs) (hr : Room k X.A) (gd : Still X.A) (pc : PE X c (tVar i)) (ho : VE X o t κ1) (hs : NoSl o) (ha : VA X (e :: es) ts κ2)
    (he : starEach (e :: es) X.env = (false, eval e X.env) :: starEach es X.env := by rfl) (hpl : (backTo pos (starEach es X.env)).any (·.1) = false := by rfl) :
    VE X (.Call (.Subscript c o p) (e :: es) [] pos) (vCallS i kvs fs n t ts) (κ1 + κ2 + κ) := by
  obtain ⟨te, pe, ge⟩ := ho
  obtain ⟨ta, pa, ga⟩ := ha
  refine ⟨_, gp_callS (n := n) (κ := κ) hr gd (pe_dget (hu_of hr) pc pe hs) pa he hpl, fun B F H σ ρ Q R er bq ⟨hi, q⟩ kk => ?_⟩
  obtain ⟨u, hu, d, rfl, fd, hd⟩ := er.sl i _ hi (fun z => nomatch z)
  refine ⟨.ref d, hu, ?_⟩
  refine ge B F H σ ρ _ _ er (by omega) q fun s u F1 H1 cq ⟨z, tf, e1, e2, q⟩ x => ?_
  subst e1
  obtain ⟨f, h1, h3⟩ := hh z tf e2
  have ez := str_of x.sr
  subst ez
  have hd1 := x.st.fk d _ fd hd
  refine ⟨d, .ref f, rfl, h1 ▸ DGet.k (k := .inr z) hd1, f, tf, rfl, h3, ?_⟩
  refine ga B F1 H1 σ ρ _ _ (er.step x.toExt) (by omega) q fun ss us F2 H2 c2 ⟨ol, zs, ez, hn, q⟩ x2 al => ?_
  have := call_go (dss := []) (vs := []) x2 al ol ez (fun _ _ => .nil) (n := n) (κ := κ) (by simpa using hn) (by omega) (tf := tf) (Q := Q) (by simpa using q) (R := R) fun s u F' H' c3 q r => kk s u F' H' (by omega) q ⟨x.toExt.trans r.toExt, r.sr, r.fo.back x.toExt⟩
  rwa [List.append_nil] at this
theorem upd_upd {H : Hp} {p : Addr} {a b : HO} : upd (upd H p a) p b = upd H p b := by
  funext x
  by_cases h : x = p
  · rw [h, upd_same, upd_same]
  · rw [upd_ne h, upd_ne h, upd_ne h]
theorem fns_res {B : Bas} {F : FS} {H : Hp} {σ : Hs} {ρ : VL.Env} {p : Addr} {kvs : List (L2.Key × V)} (er : ER X.K B F H σ ρ) (hpn : H p = none) : Res X.K ρ F H (F.or (fun x => x = p)) (upd H p (.dK kvs)) (.fns kvs) (.ref p) := by
  have x0 : Ext ρ F H F (upd H p (.dK kvs)) := er.refl.pure (Stp.new hpn) (er.dm.new hpn)
  have nc : ¬ cellsOf ρ p := fun c => er.refl.cp p c hpn
  have nf : ¬ F p := fun z => by
    obtain ⟨o, w, _⟩ := er.dm p z
    rw [hpn] at w; cases w
  have keep : ∀ b o, H b = some o → b ≠ p → upd H p (.dK kvs) b = some o := fun b o e n => by rw [upd_ne n]; exact e
  refine ⟨⟨x0.st.frz (N := fun x => x = p) fun x e => by rw [e]; exact hpn, fun a f => ?_, fun i a ns hc => ?_, er.refl.cp⟩, ⟨p, rfl, .inr rfl, upd_same⟩, trivial⟩
  · rcases f with f | rfl
    · obtain ⟨o, e, l⟩ := er.dm a f
      exact ⟨o, keep a o e (fun z => nf (by rw [← z]; exact f)), l⟩
    · exact ⟨_, upd_same, .dct⟩
  · obtain ⟨nf', c', j, l, n, c1, c2, c3, c4⟩ := x0.cl i a ns hc
    have n1 : a ≠ p := fun z => nc (by rw [← z]; exact ⟨i, ns, hc⟩)
    exact ⟨fun z => z.elim nf' n1, c', j, l, n, c1, .inl c2, c3, c4⟩
def vFns (i : Nat) (kvs : List (L2.Key × V)) (t : TVS) : TVS := fun E ρ => i < ρ.length ∧ t E (ρ.set i (.fns kvs))
theorem vss_fns2 {κ : Nat} {st1 st2 : Stmt} {sts : List Stmt} {kvs : List (L2.Key × V)} {k0 : L2.Key} {v0 : V} {t : TVS} (h1 : PS X st1 (tAsg (tDisp (kvs.map fun kv => (kC kv.1, tC kv.2))) (gName i))) (h2 : PS X st2 (sDPut (tVar i) (kC k0) (tC v0)))
    (hn : ((kvs ++ [(k0, v0)]).map (·.1)).Nodup) (hl : kvs.length ≤ 15) (hr : VSs X sts t κ) : VSs X (st1 :: st2 :: sts) (vFns i (kvs ++ [(k0, v0)]) t) κ := by
  obtain ⟨ts, ps, g⟩ := hr
  refine ⟨_, pss_cons h1 (pss_cons h2 ps), fun B F H σ ρ E D er bq ⟨hi, q⟩ kk => ?_⟩
  have tp : ∀ (kvs : List (L2.Key × V)) (H : Hp) (Q : List (V × V) → Hp → Prop), Q (kvs.map fun kv => (kV kv.1, kv.2)) H → tPairs (kvs.map fun kv => (kC kv.1, tC kv.2)) σ H Q := by
    intro kvs
    induction kvs with
    | nil => intro H Q h; exact h
    | cons kv kvs ih =>
      intro H Q h
      show kC kv.1 σ H fun x H1 => tC kv.2 σ H1 fun y H2 => tPairs _ σ H2 fun ps H3 => Q ((x, y) :: ps) H3
      exact ih H _ h
  have hn1 : (kvs.map (·.1)).Nodup := by
    rw [List.map_append, List.nodup_append] at hn
    exact hn.1
  have hk0 : k0 ∉ kvs.map (·.1) := by
    rw [List.map_append, List.nodup_append] at hn
    exact fun z => hn.2.2 _ z _ (List.mem_cons_self ..) rfl
  intro p hpn
  refine tp kvs _ _ ⟨upd_same, kvs, rfl, hl, ?_⟩
  rw [merge_new kvs [] (by rw [List.nil_append]; exact hn1), List.nil_append, upd_upd]
  refine ⟨.ref p, by rw [List.getElem?_set_self (by rw [er.len]; exact hi)], p, _, rfl, DPut.k (k := k0) upd_same (by have : sizeLine = 16777216 := rfl; omega), ?_⟩
  rw [put_new hk0, upd_upd]
  exact g B (F.or (fun x => x = p)) _ _ _ E D (er.set (fns_res er hpn) (fun _ _ z => nomatch z) i) bq q kk
theorem HldK.of {kvs : List (L2.Key × V)} {fs : List (Str × TF)} (h : Paired (fun kv nf => kv.1 = .inr nf.1 ∧ ∃ f, kv.2 = .ref f ∧ Hld X.prog X.w X.K X.mg X.base k f n κ nf.2) kvs fs) : HldK X k n κ kvs fs := by
  intro z tf e
  induction kvs generalizing fs with
  | nil => cases h; cases e
  | cons kv kvs ih =>
    cases h with
    | cons a r =>
      rename_i nf fs
      obtain ⟨h1, f, h2, h3⟩ := a
      unfold sFind at e
      unfold valV
      rw [List.find?_cons] at e ⊢
      by_cases hz : nf.1 = z
      · rw [show (nf.1 == z) = true from by rw [hz]; exact beq_self_eq_true _] at e
        cases e
        refine ⟨f, ?_, h3⟩
        rw [decide_eq_true (show kv.1 = (.inr z : L2.Key) by rw [h1, hz])]
        show some kv.2 = _
        rw [h2]
      · rw [show (nf.1 == z) = false from by rw [beq_eq_false_iff_ne]; exact hz] at e
        rw [decide_eq_false (show ¬ kv.1 = (.inr z : L2.Key) by rw [h1]; exact fun q => hz (Sum.inr.inj q))]
        exact ih r e
end
theorem gok_imp {P : Program} {w : World} {K : PySem.W.Frag} {mg : Str → Option Value} {base : Heap} {k : Nat} {f : Addr} {fd : FuncData} {ps : List Str} {sp sp' : Sp} (g : GOk P w K mg base CX0 k f fd ps sp)
    (h : ∀ vs H Q E, sp' vs H Q E → sp vs H Q E) : GOk P w K mg base CX0 k f fd ps sp' :=
  ⟨fun vs H Q E q => g.len vs H Q E (h _ _ _ _ q), fun A r s o sh H e a us vs Q E b v q => g.go A r s o sh H e a us vs Q E b v (h _ _ _ _ q)⟩
end VL
namespace VL
open PySem PySem.Spec PyProof.Rows L2 VG

/-! ### looking a key up, the key any tuple -/
section
variable {X : Cx} {pins : List (Addr × Obj)} {σ : L2.St} {H : Hp} {s : Shared} {a : Addr} {y d : V} {u r : Value} {o : Option V} {A : Around} {E : Value → Shared → Prop}
def DG (K : PySem.W.Frag) (H : Hp) (a : Addr) (y : V) (o : Option V) : Prop :=
  (∃ kvs k, Rd H a (.dK kvs) ∧ y = kV k ∧ o = valV kvs k) ∨ (∃ kvs k b, Rd H a (.dT kvs) ∧ y = .ref b ∧ SqT K H b (k.map kV) ∧ o = valV kvs k)
theorem key_sq {b : Addr} {k : List L2.Key} (I : Inv X pins σ H s) (h : SqT X.K H b (k.map kV)) : (tupleKind (mixKind X.prog X.w)).is s.heap k b := by
  obtain ⟨its, rv, ⟨ob, h1, h2, n, h3⟩, _⟩ := I.tuple h
  have ia := items_are (P := X.prog) (w := X.w) rv
  exact ⟨ob, its.toArray, n, h1, h2, h3, by simpa using ia⟩
theorem DG.isD {K : PySem.W.Frag} (g : DG K H a y o) : IsD H a := by
  rcases g with ⟨kvs, _, e, _⟩ | ⟨kvs, _, _, e, _⟩
  · exact .inl ⟨kvs, e⟩
  · exact .inr ⟨kvs, e⟩
theorem g_item {v : V} {Q : Value → Shared → Prop} (hu : A.units + 1 < cLine) (I : Inv X pins σ H s) (g : DG X.K H a y (some v)) (ry : RelV y u) (h : ∀ w' s', Inv X pins σ H s' → RelV v w' → Q w' s') :
    wpAny (model X.prog X.w) A (getItem (.ref a) u) Q E s := by
  rcases g with ⟨kvs, k, e, ey, l⟩ | ⟨kvs, k, b, e, ey, sq, l⟩
  · exact d_getItem hu I (.inl ⟨kvs, k, e, ey, l⟩) ry h
  · subst ey
    obtain rfl : u = Value.ref b := ry
    obtain ⟨_, hd, xs, rel, dd⟩ := dt_rd I.hok e
    have q := rel.val k
    rw [← l] at q
    obtain ⟨w', hw, rw'⟩ := RelO.some_of q
    obtain ⟨p, hp, rfl⟩ := Option.map_eq_some_iff.mp hw
    exact wpAny_getItem_heap (tupleKind_room_in1 hu) (key_sq I sq) dd hp (h _ _ (I.tok _) rw')
theorem g_in {Q : Value → Shared → Prop} (hu : A.units + 1 < cLine) (I : Inv X pins σ H s) (g : DG X.K H a y o) (ry : RelV y u) (h : ∀ s', Inv X pins σ H s' → Q (.bool o.isSome) s') :
    wpAny (model X.prog X.w) A (compareOp .In u (.ref a)) Q E s := by
  rcases g with ⟨kvs, k, e, ey, l⟩ | ⟨kvs, k, b, e, ey, sq, l⟩
  · exact d_in hu I (.inl ⟨kvs, k, e, ey, l⟩) ry h
  · subst ey
    obtain rfl : u = Value.ref b := ry
    obtain ⟨_, hd, xs, rel, dd⟩ := dt_rd I.hok e
    have q := (rel.val k).isSome_eq
    rw [Option.isSome_map, ← l] at q
    rw [q] at h
    exact wpAny_in_heap (tupleKind_room_in1 hu) (key_sq I sq) hd dd (h _ (I.tok _))
theorem g_notIn {Q : Value → Shared → Prop} (hu : A.units + 1 < cLine) (I : Inv X pins σ H s) (g : DG X.K H a y o) (ry : RelV y u) (h : ∀ s', Inv X pins σ H s' → Q (.bool (!o.isSome)) s') :
    wpAny (model X.prog X.w) A (compareOp .NotIn u (.ref a)) Q E s := by
  rcases g with ⟨kvs, k, e, ey, l⟩ | ⟨kvs, k, b, e, ey, sq, l⟩
  · exact d_notIn hu I (.inl ⟨kvs, k, e, ey, l⟩) ry h
  · subst ey
    obtain rfl : u = Value.ref b := ry
    obtain ⟨_, hd, xs, rel, dd⟩ := dt_rd I.hok e
    have q := (rel.val k).isSome_eq
    rw [Option.isSome_map, ← l] at q
    rw [q] at h
    exact wpAny_notIn_heap (tupleKind_room_in1 hu) (key_sq I sq) hd dd (h _ (I.tok _))
theorem g_get1 {Q : Value → Shared → Prop} (hu : A.units + 1 < cLine) (I : Inv X pins σ H s) (g : DG X.K H a y o) (ry : RelV y u) (h : ∀ w' s', Inv X pins σ H s' → RelV (o.getD .non) w' → Q w' s') :
    wpAny (model X.prog X.w) A (call (.builtin "dict.get") [.ref a, u]) Q E s := by
  rcases g with ⟨kvs, k, e, ey, l⟩ | ⟨kvs, k, b, e, ey, sq, l⟩
  · exact d_get1 hu I (.inl ⟨kvs, k, e, ey, l⟩) ry h
  · subst ey
    obtain rfl : u = Value.ref b := ry
    obtain ⟨_, hd, xs, rel, dd⟩ := dt_rd I.hok e
    have q := (rel.val k).getD (d := .non) rfl
    rw [← l] at q
    exact call_meetsIn PySem.F.slot_dict_get dd.typeIs PySem.F.entry_dict_get (PySem.F.args_dict_get_2 _ _) (meetsH_dict_get (tupleKind (mixKind X.prog X.w)) a b hd)
      ⟨tupleKind_room_in1 hu, k, xs, key_sq I sq, dd, h _ _ (I.tok _) q⟩
theorem g_get2 {Q : Value → Shared → Prop} (hu : A.units + 1 < cLine) (I : Inv X pins σ H s) (g : DG X.K H a y o) (ry : RelV y u) (rd : RelV d r) (h : ∀ w' s', Inv X pins σ H s' → RelV (o.getD d) w' → Q w' s') :
    wpAny (model X.prog X.w) A (call (.builtin "dict.get") [.ref a, u, r]) Q E s := by
  rcases g with ⟨kvs, k, e, ey, l⟩ | ⟨kvs, k, b, e, ey, sq, l⟩
  · exact d_get2 hu I (.inl ⟨kvs, k, e, ey, l⟩) ry rd h
  · subst ey
    obtain rfl : u = Value.ref b := ry
    obtain ⟨_, hd, xs, rel, dd⟩ := dt_rd I.hok e
    have q := (rel.val k).getD rd
    rw [← l] at q
    exact call_meetsIn PySem.F.slot_dict_get dd.typeIs PySem.F.entry_dict_get (PySem.F.args_dict_get_3 _ _ _) (meetsH_dict_get_default (tupleKind (mixKind X.prog X.w)) a b hd r)
      ⟨tupleKind_room_in1 hu, k, xs, key_sq I sq, dd, h _ _ (I.tok _) q⟩
end

section
variable {X : Cx} {o i e f : Expr} {pos apos cpos : Pos} {td ty tx : TE}
def tGItem (K : PySem.W.Frag) (td ty : TE) : TE := fun σ H Q => td σ H fun x H1 => ty σ H1 fun y H2 => ∃ a v, x = .ref a ∧ DG K H2 a y (some v) ∧ Q v H2
def tGIn (K : PySem.W.Frag) (ty td : TE) : TE := fun σ H Q => ty σ H fun y H1 => td σ H1 fun x H2 => ∃ a o, x = .ref a ∧ DG K H2 a y o ∧ Q (.bl o.isSome) H2
def tGNotIn (K : PySem.W.Frag) (ty td : TE) : TE := fun σ H Q => ty σ H fun y H1 => td σ H1 fun x H2 => ∃ a o, x = .ref a ∧ DG K H2 a y o ∧ Q (.bl (!o.isSome)) H2
def tGGet1 (K : PySem.W.Frag) (td ty : TE) : TE := fun σ H Q => td σ H fun x H1 => ∃ a, x = .ref a ∧ IsD H1 a ∧ ty σ H1 fun y H2 => ∃ o, DG K H2 a y o ∧ Q (o.getD .non) H2
def tGGet2 (K : PySem.W.Frag) (td ty tx : TE) : TE := fun σ H Q => td σ H fun x H1 => ∃ a, x = .ref a ∧ IsD H1 a ∧ ty σ H1 fun y H2 => tx σ H2 fun z H3 => ∃ o, DG K H3 a y o ∧ Q (o.getD z) H3
theorem pe_gitem (hu : X.A.units + 1 < cLine) (ho : PE X o td) (hi : PE X i ty) (hs : NoSl i) : PE X (.Subscript o i pos) (tGItem X.K td ty) :=
  ⟨fun pins s σ H Q I h => subD_of PySem.F.slot_dict_getitem.lookup hs (thn (ho.run pins s σ H _ I h) fun u s1 ⟨x, H1, I1, rx, q1⟩ => thn (hi.run pins s1 σ H1 _ I1 q1) fun iv s2 ⟨y, H2, I2, ry, a, v, ex, g, q2⟩ => by
    subst ex
    obtain rfl : u = Value.ref a := rx
    exact ⟨(isD_at I2 g.isD).1, g_item hu I2 g ry fun w' s3 I3 rw' => ⟨v, H2, I3, rw', q2⟩⟩)⟩
theorem pc_gin (hu : X.A.units + 1 < cLine) (hi : PE X i ty) (ho : PE X o td) : PC X .In i o (tGIn X.K ty td) :=
  ⟨fun pins s σ H Q I h => thn (hi.run pins s σ H _ I h) fun iv s1 ⟨y, H1, I1, ry, q1⟩ => thn (ho.run pins s1 σ H1 _ I1 q1) fun u s2 ⟨x, H2, I2, rx, a, ov, ex, g, q2⟩ => by
    subst ex
    obtain rfl : u = Value.ref a := rx
    exact g_in hu I2 g ry fun s3 I3 => ⟨.bl ov.isSome, H2, I3, rfl, q2⟩⟩
theorem pc_gnotin (hu : X.A.units + 1 < cLine) (hi : PE X i ty) (ho : PE X o td) : PC X .NotIn i o (tGNotIn X.K ty td) :=
  ⟨fun pins s σ H Q I h => thn (hi.run pins s σ H _ I h) fun iv s1 ⟨y, H1, I1, ry, q1⟩ => thn (ho.run pins s1 σ H1 _ I1 q1) fun u s2 ⟨x, H2, I2, rx, a, ov, ex, g, q2⟩ => by
    subst ex
    obtain rfl : u = Value.ref a := rx
    exact g_notIn hu I2 g ry fun s3 I3 => ⟨.bl (!ov.isSome), H2, I3, rfl, q2⟩⟩
theorem pe_gget1 (hu : X.A.units + 1 < cLine) (ho : PE X o td) (he : PE X e ty) (m : M1 X o "get" apos e cpos) : PE X (.Call (.Attribute o "get" apos) [e] [] cpos) (tGGet1 X.K td ty) :=
  ⟨fun pins s σ H Q I h => wpAny_Call_method m.base m.few m.line PySem.F.plainAttrs_dict PySem.F.slot_dict_get PySem.F.type_dict_get (thn (ho.run pins s σ H _ I h) fun u s1 ⟨x, H1, I1, rx, a, ex, d, q1⟩ => by
    subst ex
    obtain rfl : u = Value.ref a := rx
    obtain ⟨t1, t2, _⟩ := isD_at I1 d
    refine ⟨t1, t2, ?_⟩
    rw [m.trees]
    exact Calls.callWith_builtin rfl (Calls.evalArgs_plain (Calls.spliced_cons (thn (he.run pins s1 σ H1 _ I1 q1) fun iv s2 ⟨y, H2, I2, ry, ov, g, q2⟩ =>
      Calls.spliced_nil (g_get1 hu I2 g ry fun w' s3 I3 rw' => ⟨_, H2, I3, rw', q2⟩)))))⟩
theorem pe_gget2 (hu : X.A.units + 1 < cLine) (ho : PE X o td) (he : PE X e ty) (hf : PE X f tx) (m : M2 X o "get" apos e f cpos) : PE X (.Call (.Attribute o "get" apos) [e, f] [] cpos) (tGGet2 X.K td ty tx) :=
  ⟨fun pins s σ H Q I h => wpAny_Call_method m.base m.few m.line PySem.F.plainAttrs_dict PySem.F.slot_dict_get PySem.F.type_dict_get (thn (ho.run pins s σ H _ I h) fun u s1 ⟨x, H1, I1, rx, a, ex, d, q1⟩ => by
    subst ex
    obtain rfl : u = Value.ref a := rx
    obtain ⟨t1, t2, _⟩ := isD_at I1 d
    refine ⟨t1, t2, ?_⟩
    rw [m.trees]
    exact Calls.callWith_builtin rfl (Calls.evalArgs_plain (Calls.spliced_cons (thn (he.run pins s1 σ H1 _ I1 q1) fun iv s2 ⟨y, H2, I2, ry, q2⟩ =>
      Calls.spliced_cons (thn (hf.run pins s2 σ H2 _ I2 q2) fun fv s3 ⟨z, H3, I3, rz, ov, g, q3⟩ => Calls.spliced_nil (g_get2 hu I3 g ry rz fun w' s4 I4 rw' => ⟨_, H3, I4, rw', q3⟩))))))⟩
end
end VL
namespace VL
open PySem PySem.Spec PyProof.Rows L2 VG

section
variable {κ : Type} [DecidableEq κ]
def gFind (kvs : List (κ × PyData)) (k : κ) : Option PyData := (kvs.find? fun kv => decide (kv.1 = k)).map (·.2)
def gPut (kvs : List (κ × PyData)) (k : κ) (d : PyData) : List (κ × PyData) :=
  if (kvs.any fun kv => decide (kv.1 = k)) = true then kvs.map fun kv => if kv.1 = k then (kv.1, d) else kv else kvs ++ [(k, d)]
def gDrop (kvs : List (κ × PyData)) (k : κ) : List (κ × PyData) := kvs.filter fun kv => decide (kv.1 ≠ k)
theorem gPut_len (kvs : List (κ × PyData)) (k : κ) (d : PyData) : (gPut kvs k d).length ≤ kvs.length + 1 := by
  unfold gPut
  split
  · rw [List.length_map]; omega
  · simp
theorem gFind_nil {k : κ} : gFind ([] : List (κ × PyData)) k = none := rfl
theorem gFind_cons {k k' : κ} {d : PyData} {r : List (κ × PyData)} : gFind ((k', d) :: r) k = if k' = k then some d else gFind r k := by
  unfold gFind
  rw [List.find?_cons]
  by_cases h : k' = k
  · simp [h]
  · simp [h]
theorem gFind_any {kvs : List (κ × PyData)} {k : κ} : (kvs.any fun kv => decide (kv.1 = k)) = (gFind kvs k).isSome := by
  induction kvs with
  | nil => rfl
  | cons p r ih =>
    obtain ⟨k', d⟩ := p
    rw [gFind_cons, List.any_cons, ih]
    by_cases h : k' = k <;> simp [h]
theorem gFind_put (kvs : List (κ × PyData)) (k j : κ) (d : PyData) : gFind (gPut kvs k d) j = if j = k then some d else gFind kvs j := by
  unfold gPut
  split
  next h =>
    induction kvs with
    | nil => cases h
    | cons p r ih =>
      obtain ⟨k', e⟩ := p
      rw [List.map_cons]
      by_cases hk : k' = k
      · subst hk
        simp only [if_true]
        rw [gFind_cons, gFind_cons]
        by_cases hj : j = k'
        · subst hj; simp
        · rw [if_neg (fun z => hj z.symm), if_neg hj, if_neg (fun z => hj z.symm)]
          clear ih h
          induction r with
          | nil => rfl
          | cons q r ih =>
            obtain ⟨k2, e2⟩ := q
            rw [List.map_cons]
            by_cases h2 : k2 = k'
            · simp only [h2, if_true]
              rw [gFind_cons, gFind_cons, if_neg (fun z => hj z.symm), if_neg (fun z => hj z.symm)]
              exact ih
            · simp only [h2, if_false]
              rw [gFind_cons, gFind_cons, ih]
      · simp only [hk, if_false]
        rw [gFind_cons, gFind_cons]
        have h' : (r.any fun kv => decide (kv.1 = k)) = true := by simpa [hk] using h
        rw [ih h']
        by_cases hj : j = k
        · subst hj; simp [hk]
        · simp [hj]
  next h =>
    rw [Bool.not_eq_true] at h
    induction kvs with
    | nil =>
      rw [List.nil_append, gFind_cons]
      by_cases hj : j = k
      · simp [hj]
      · rw [if_neg (fun z => hj z.symm), if_neg hj]
    | cons p r ih =>
      obtain ⟨k', e⟩ := p
      rw [List.cons_append, gFind_cons, gFind_cons]
      simp only [List.any_cons, Bool.or_eq_false_iff, decide_eq_false_iff_not] at h
      rw [ih h.2]
      by_cases hj : j = k
      · subst hj
        rw [if_neg h.1]; simp
      · simp [hj]
theorem gPut_keys (kvs : List (κ × PyData)) (k : κ) (d : PyData) : (gPut kvs k d).map (·.1) = if (gFind kvs k).isSome = true then kvs.map (·.1) else kvs.map (·.1) ++ [k] := by
  unfold gPut
  rw [gFind_any]
  split
  · rw [List.map_map]
    apply List.map_congr_left
    intro kv _
    show (if kv.1 = k then (kv.1, d) else kv).1 = kv.1
    split <;> rfl
  · simp
variable {K : PySem.W.Frag} {F : FS} {H : Hp}
theorem g_find : ∀ {us : List (κ × V)} {kvs : List (κ × PyData)}, us.map (·.1) = kvs.map (·.1) → RA K F H (us.map (·.2)) (kvs.map (·.2)) → ∀ k, (gFind kvs k = none ∧ valV us k = none) ∨ ∃ v d, gFind kvs k = some d ∧ valV us k = some v ∧ R1 K F H v d
  | [], [], _, _, _ => .inl ⟨rfl, rfl⟩
  | [], _ :: _, e, _, _ => by cases e
  | _ :: _, [], e, _, _ => by cases e
  | (k1, v) :: us, (k2, d) :: kvs, e, r, k => by
    simp only [List.map_cons, List.cons.injEq] at e
    obtain ⟨rfl, e⟩ := e
    obtain ⟨r1, r2⟩ := RA.uncons (by simpa only [List.map_cons] using r)
    by_cases z : k1 = k
    · subst z
      exact .inr ⟨v, d, by simp [gFind], by simp [valV], r1⟩
    · have h1 : gFind ((k1, d) :: kvs) k = gFind kvs k := by simp [gFind, z]
      have h2 : valV ((k1, v) :: us) k = valV us k := by simp [valV, z]
      rw [h1, h2]
      exact g_find e r2 k
theorem g_any : ∀ {us : List (κ × V)} {kvs : List (κ × PyData)}, us.map (·.1) = kvs.map (·.1) → ∀ k, (us.any fun kv => decide (kv.1 = k)) = kvs.any fun kv => decide (kv.1 = k)
  | [], [], _, _ => rfl
  | [], _ :: _, e, _ => by cases e
  | _ :: _, [], e, _ => by cases e
  | (k1, v) :: us, (k2, d) :: kvs, e, k => by
    simp only [List.map_cons, List.cons.injEq] at e
    obtain ⟨rfl, e⟩ := e
    simp only [List.any_cons, g_any e k]
theorem g_repl {v : V} {d : PyData} (r1 : R1 K F H v d) (k : κ) : ∀ {us : List (κ × V)} {kvs : List (κ × PyData)}, us.map (·.1) = kvs.map (·.1) → RA K F H (us.map (·.2)) (kvs.map (·.2)) →
    (us.map fun kv => if kv.1 = k then (kv.1, v) else kv).map (·.1) = (kvs.map fun kv => if kv.1 = k then (kv.1, d) else kv).map (·.1) ∧
      RA K F H ((us.map fun kv => if kv.1 = k then (kv.1, v) else kv).map (·.2)) ((kvs.map fun kv => if kv.1 = k then (kv.1, d) else kv).map (·.2))
  | [], [], _, _ => ⟨rfl, .nil⟩
  | [], _ :: _, e, _ => by cases e
  | _ :: _, [], e, _ => by cases e
  | (k1, v1) :: us, (k2, d2) :: kvs, e, r => by
    simp only [List.map_cons, List.cons.injEq] at e
    obtain ⟨rfl, e⟩ := e
    obtain ⟨a1, a2⟩ := RA.uncons (by simpa only [List.map_cons] using r)
    obtain ⟨b1, b2⟩ := g_repl r1 k e a2
    by_cases z : k1 = k
    · simp only [List.map_cons, z, if_true]
      exact ⟨by rw [b1], .cons r1 b2⟩
    · simp only [List.map_cons, z, if_false]
      exact ⟨by rw [b1], .cons a1 b2⟩
theorem g_put {us : List (κ × V)} {kvs : List (κ × PyData)} {v : V} {d : PyData} {k : κ} (e : us.map (·.1) = kvs.map (·.1)) (r : RA K F H (us.map (·.2)) (kvs.map (·.2))) (r1 : R1 K F H v d) :
    (putK us k v).map (·.1) = (gPut kvs k d).map (·.1) ∧ RA K F H ((putK us k v).map (·.2)) ((gPut kvs k d).map (·.2)) := by
  unfold putK gPut
  rw [g_any e]
  by_cases h : (kvs.any fun kv => decide (kv.1 = k)) = true
  · simp only [h, if_true]
    exact g_repl r1 k e r
  · rw [if_neg h, if_neg h]
    refine ⟨by rw [List.map_append, List.map_append, e]; rfl, ?_⟩
    rw [List.map_append, List.map_append]
    exact r.append (.one r1)
theorem g_drop (k : κ) : ∀ {us : List (κ × V)} {kvs : List (κ × PyData)}, us.map (·.1) = kvs.map (·.1) → RA K F H (us.map (·.2)) (kvs.map (·.2)) →
    (dropK us k).map (·.1) = (gDrop kvs k).map (·.1) ∧ RA K F H ((dropK us k).map (·.2)) ((gDrop kvs k).map (·.2))
  | [], [], _, _ => ⟨rfl, .nil⟩
  | [], _ :: _, e, _ => by cases e
  | _ :: _, [], e, _ => by cases e
  | (k1, v1) :: us, (k2, d2) :: kvs, e, r => by
    simp only [List.map_cons, List.cons.injEq] at e
    obtain ⟨rfl, e⟩ := e
    obtain ⟨a1, a2⟩ := RA.uncons (by simpa only [List.map_cons] using r)
    obtain ⟨b1, b2⟩ := g_drop k e a2
    unfold dropK gDrop at b1 b2 ⊢
    rw [List.filter_cons, List.filter_cons]
    by_cases z : k1 = k
    · simp only [z, ne_eq, not_true_eq_false, decide_false, Bool.false_eq_true, if_false]
      simp only [ne_eq] at b1 b2
      exact ⟨b1, b2⟩
    · simp only [z, ne_eq, not_false_eq_true, decide_true, if_true, List.map_cons]
      simp only [ne_eq] at b1 b2
      exact ⟨by rw [b1], .cons a1 b2⟩
/-- names and values, apart and together -/
theorem zip_of {us : List V} {kvs : List (κ × PyData)} (r : RA K F H us (kvs.map (·.2))) : ((kvs.map (·.1)).zip us).map (·.1) = kvs.map (·.1) ∧ ((kvs.map (·.1)).zip us).map (·.2) = us := by
  have l := r.len
  rw [List.length_map] at l
  exact ⟨List.map_fst_zip (by rw [List.length_map]; omega), List.map_snd_zip (by rw [List.length_map]; omega)⟩
theorem zipV_back {us : List (κ × V)} {ks : List κ} {vs : List V} (h1 : us.map (·.1) = ks) (h2 : us.map (·.2) = vs) : ks.zip vs = us := by
  subst h1 h2
  induction us with
  | nil => rfl
  | cons p r ih => simp only [List.map_cons, List.zip_cons_cons, ih]
end
theorem dFind_g (kvs : List (L2.Key × PyData)) (k : L2.Key) : dFind kvs k = gFind kvs k := rfl

/-! ### the slots -/
abbrev odK (kvs : List (L2.Key × PyData)) : SV := .ow (.K (kvs.map (·.1))) (kvs.map (·.2))
abbrev odT (kvs : List (List L2.Key × PyData)) : SV := .ow (.T (kvs.map (·.1))) (kvs.map (·.2))
abbrev bdK (kvs : List (L2.Key × PyData)) : SV := .bw (.K (kvs.map (·.1))) (kvs.map (·.2))
abbrev bdT (kvs : List (List L2.Key × PyData)) : SV := .bw (.T (kvs.map (·.1))) (kvs.map (·.2))
abbrev fzT (kvs : List (List L2.Key × PyData)) : SV := .fz (kvs.map (·.1)) (kvs.map (·.2))
theorem zipD_back {κ : Type} (kvs : List (κ × PyData)) : (kvs.map (·.1)).zip (kvs.map (·.2)) = kvs := by
  induction kvs with
  | nil => rfl
  | cons p r ih => simp only [List.map_cons, List.zip_cons_cons, ih]
theorem pair_inj {κ : Type} {kvs kvs' : List (κ × PyData)} (h1 : kvs.map (·.1) = kvs'.map (·.1)) (h2 : kvs.map (·.2) = kvs'.map (·.2)) : kvs = kvs' := by
  rw [← zipD_back kvs, ← zipD_back kvs', h1, h2]
theorem kD_inj {a b : L2.Key} (h : kD a = kD b) : a = b := by
  cases a <;> cases b <;> first | (injection h with h; rw [h]) | cases h
theorem kDl_inj : ∀ {a b : List L2.Key}, a.map kD = b.map kD → a = b
  | [], [], _ => rfl
  | [], _ :: _, h => by cases h
  | _ :: _, [], h => by cases h
  | _ :: _, _ :: _, h => by
    simp only [List.map_cons, List.cons.injEq] at h
    rw [kD_inj h.1, kDl_inj h.2]
/-- a dict by ints and texts; by tuples -/
def DicK (s : SV) (kvs : List (L2.Key × PyData)) : Prop := s = odK kvs ∨ s = bdK kvs ∨ s = .v (dKD kvs) ∨ s = .dct kvs
def DicT (s : SV) (kvs : List (List L2.Key × PyData)) : Prop := s = odT kvs ∨ s = bdT kvs ∨ s = fzT kvs
/-- what stands at a key -/
def Lk (a b : SV) (P : Option PyData → Prop) : Prop :=
  (∃ kvs d k, DicK a kvs ∧ b = .v d ∧ keyOf d = some k ∧ P (gFind kvs k)) ∨ ∃ kvs k, DicT a kvs ∧ b = .v (kDs k) ∧ P (gFind kvs k)
section
variable {K : PySem.W.Frag} {F : FS} {H : Hp} {u w : V} {s : SV}
theorem zip_rel : ∀ {ks : List L2.Key} {xs : List V} {ds : List PyData}, RA K F H xs ds → (ks.zip xs).map (·.1) = (ks.zip ds).map (·.1) ∧ RA K F H ((ks.zip xs).map (·.2)) ((ks.zip ds).map (·.2))
  | [], _, _, _ => ⟨rfl, .nil⟩
  | _ :: _, [], [], _ => ⟨rfl, .nil⟩
  | _ :: _, [], _ :: _, h => by cases h
  | _ :: _, _ :: _, [], h => by cases h
  | k :: ks, x :: xs, d :: ds, h => by
    obtain ⟨h1, h2⟩ := RA.uncons h
    obtain ⟨a, b⟩ := zip_rel (ks := ks) h2
    simp only [List.zip_cons_cons, List.map_cons]
    exact ⟨by rw [a], .cons h1 b⟩
theorem dicK_at0 {kvs : List (L2.Key × PyData)} (h : SlotR K F H u s) (d : DicK s kvs) (n : ∀ l, s ≠ .dct l) : ∃ p us, u = .ref p ∧ H p = some (.dK us) ∧ us.map (·.1) = kvs.map (·.1) ∧ RA K F H (us.map (·.2)) (kvs.map (·.2)) := by
  rcases d with rfl | rfl | rfl | rfl
  · obtain ⟨p, us, e, q, _, r⟩ := h
    obtain ⟨z1, z2⟩ := zip_of r
    exact ⟨p, _, e, q, z1, by rw [z2]; exact r⟩
  · obtain ⟨p, us, e, q, r⟩ := h
    obtain ⟨z1, z2⟩ := zip_of r
    exact ⟨p, _, e, q, z1, by rw [z2]; exact r⟩
  · have h : R1 K F H u (.dict (kvs.map fun kv => (kD kv.1, kv.2))) := h
    generalize hl : (kvs.map fun kv => (kD kv.1, kv.2)) = l at h
    cases h with
    | dic f q r =>
      rename_i p ks xs ds
      have e : ks.zip ds = kvs := by
        have : ∀ (a b : List (L2.Key × PyData)), (a.map fun kv => (kD kv.1, kv.2)) = b.map (fun kv => (kD kv.1, kv.2)) → a = b := by
          intro a
          induction a with
          | nil => intro b h; cases b with | nil => rfl | cons _ _ => cases h
          | cons x a ih =>
            intro b h
            cases b with
            | nil => cases h
            | cons y b =>
              simp only [List.map_cons, List.cons.injEq, Prod.mk.injEq] at h
              obtain ⟨x1, x2⟩ := x
              obtain ⟨y1, y2⟩ := y
              have e1 : x1 = y1 := kD_inj h.1.1
              have e2 : x2 = y2 := h.1.2
              rw [ih b h.2, e1, e2]
        exact (this _ _ hl).symm
      subst e
      exact ⟨p, ks.zip xs, rfl, q, (zip_rel r).1, (zip_rel r).2⟩
  · exact absurd rfl (n _)
theorem dicK_at {kvs : List (L2.Key × PyData)} (h : SlotR K F H u s) (d : DicK s kvs) : ∃ p us, u = .ref p ∧ Rd H p (.dK us) ∧ us.map (·.1) = kvs.map (·.1) ∧ RA K F H (us.map (·.2)) (kvs.map (·.2)) := by
  by_cases n : ∀ l, s ≠ .dct l
  · obtain ⟨p, us, e, q, k, r⟩ := dicK_at0 h d n
    exact ⟨p, us, e, .inl q, k, r⟩
  · rcases d with rfl | rfl | rfl | rfl
    · exact absurd (fun l e => nomatch e) n
    · exact absurd (fun l e => nomatch e) n
    · exact absurd (fun l e => nomatch e) n
    · obtain ⟨p, us, e, q, k, r⟩ := h
      exact ⟨p, us, e, q.rd, k, r⟩
theorem dicT_at {kvs : List (List L2.Key × PyData)} (h : SlotR K F H u s) (d : DicT s kvs) : ∃ p us, u = .ref p ∧ H p = some (.dT us) ∧ us.map (·.1) = kvs.map (·.1) ∧ RA K F H (us.map (·.2)) (kvs.map (·.2)) := by
  rcases d with rfl | rfl | rfl
  · obtain ⟨p, us, e, q, _, r⟩ := h
    obtain ⟨z1, z2⟩ := zip_of r
    exact ⟨p, _, e, q, z1, by rw [z2]; exact r⟩
  · obtain ⟨p, us, e, q, r⟩ := h
    obtain ⟨z1, z2⟩ := zip_of r
    exact ⟨p, _, e, q, z1, by rw [z2]; exact r⟩
  · obtain ⟨p, us, e, f, q, r⟩ := h
    obtain ⟨z1, z2⟩ := zip_of r
    exact ⟨p, _, e, q, z1, by rw [z2]; exact r⟩
theorem ra_keys : ∀ {us : List V} {k : List L2.Key}, RA K F H us (k.map kD) → us = k.map kV
  | [], [], _ => rfl
  | [], _ :: _, h => by cases h
  | _ :: _, [], h => by cases h
  | u :: us, a :: k, h => by
    obtain ⟨h1, h2⟩ := RA.uncons (by simpa only [List.map_cons] using h)
    rw [List.map_cons, ra_keys h2]
    cases a with
    | inl i => rw [int_of h1]; rfl
    | inr z => rw [str_of h1]; rfl
theorem keyT_of {k : List L2.Key} (h : SlotR K F H u (.v (kDs k))) : ∃ b, u = .ref b ∧ SqT K H b (k.map kV) := by
  cases (show R1 K F H u (.tuple (k.map kD)) from h) with
  | tup q r => exact ⟨_, rfl, by rw [← ra_keys r]; exact q.t⟩
theorem lk_core {P : Option PyData → Prop} {a b : SV} (ra : SlotR K F H u a) (rb : SlotR K F H w b) (h : Lk a b P) : ∃ p o, u = .ref p ∧ DG K H p w o ∧ ((o = none ∧ P none) ∨ ∃ v d, o = some v ∧ R1 K F H v d ∧ P (some d)) := by
  rcases h with ⟨kvs, d, k, dk, rfl, ek, hp⟩ | ⟨kvs, k, dt, rfl, hp⟩
  · obtain ⟨p, us, rfl, q, em, r⟩ := dicK_at ra dk
    refine ⟨p, valV us k, rfl, .inl ⟨us, k, q, key_of rb ek, rfl⟩, ?_⟩
    rcases g_find em r k with ⟨z1, z2⟩ | ⟨x, d2, z1, z2, rr⟩
    · rw [z1] at hp; exact .inl ⟨z2, hp⟩
    · rw [z1] at hp; exact .inr ⟨x, d2, z2, rr, hp⟩
  · obtain ⟨p, us, rfl, q, em, r⟩ := dicT_at ra dt
    obtain ⟨c, rfl, sq⟩ := keyT_of rb
    refine ⟨p, valV us k, rfl, .inr ⟨us, k, c, .inl q, rfl, sq, rfl⟩, ?_⟩
    rcases g_find em r k with ⟨z1, z2⟩ | ⟨x, d2, z1, z2, rr⟩
    · rw [z1] at hp; exact .inl ⟨z2, hp⟩
    · rw [z1] at hp; exact .inr ⟨x, d2, z2, rr, hp⟩
theorem isD_of {a : SV} (ra : SlotR K F H u a) (h : (∃ kvs, DicK a kvs) ∨ ∃ kvs, DicT a kvs) : ∃ p, u = .ref p ∧ IsD H p := by
  rcases h with ⟨kvs, h⟩ | ⟨kvs, h⟩
  · obtain ⟨p, us, rfl, q, _⟩ := dicK_at ra h
    exact ⟨p, rfl, .inl ⟨us, q⟩⟩
  · obtain ⟨p, us, rfl, q, _⟩ := dicT_at ra h
    exact ⟨p, rfl, .inr ⟨us, .inl q⟩⟩
theorem Lk.isDic {a b : SV} {P : Option PyData → Prop} (h : Lk a b P) : (∃ kvs, DicK a kvs) ∨ ∃ kvs, DicT a kvs := by
  rcases h with ⟨kvs, d, k, dk, _⟩ | ⟨kvs, k, dt, _⟩
  · exact .inl ⟨kvs, dk⟩
  · exact .inr ⟨kvs, dt⟩
def fGItem : FB := fun a b Q => Lk a b fun o => ∃ d, o = some d ∧ Q (.v d)
def fGIn (neg : Bool) : FB := fun b a Q => Lk a b fun o => Q (.v (.bool (if neg then !o.isSome else o.isSome)))
theorem ops_gitem : OpS K (fun x y H Q => ∃ a v, x = .ref a ∧ DG K H a y (some v) ∧ Q v H) fGItem := by
  intro F H u w a b Q R fo ra rb h k
  obtain ⟨p, o, rfl, g, z⟩ := lk_core ra rb h
  rcases z with ⟨_, d, e, _⟩ | ⟨v, d, rfl, r, d', e, q⟩
  · cases e
  · cases e
    exact ⟨p, v, rfl, g, k _ _ F H q (fun _ _ z => nomatch z) (.same fo r)⟩
theorem ops_gin : OpS K (fun y x H Q => ∃ a o, x = .ref a ∧ DG K H a y o ∧ Q (.bl o.isSome) H) (fGIn false) := by
  intro F H u w a b Q R fo ra rb h k
  obtain ⟨p, o, rfl, g, z⟩ := lk_core rb ra h
  refine ⟨p, o, rfl, g, ?_⟩
  rcases z with ⟨rfl, q⟩ | ⟨v, d, rfl, r, q⟩
  · exact k _ _ F H q (fun _ _ z => nomatch z) (.same fo (.bl _))
  · exact k _ _ F H q (fun _ _ z => nomatch z) (.same fo (.bl _))
theorem ops_gnotin : OpS K (fun y x H Q => ∃ a o, x = .ref a ∧ DG K H a y o ∧ Q (.bl (!o.isSome)) H) (fGIn true) := by
  intro F H u w a b Q R fo ra rb h k
  obtain ⟨p, o, rfl, g, z⟩ := lk_core rb ra h
  refine ⟨p, o, rfl, g, ?_⟩
  rcases z with ⟨rfl, q⟩ | ⟨v, d, rfl, r, q⟩
  · exact k _ _ F H q (fun _ _ z => nomatch z) (.same fo (.bl _))
  · exact k _ _ F H q (fun _ _ z => nomatch z) (.same fo (.bl _))
end
/-- d.get(k), d.get(k, x) -/
def vGet1 (td ty : TV) : TV := fun ρ Q => td ρ fun a => ((∃ kvs, DicK a kvs) ∨ ∃ kvs, DicT a kvs) ∧ ty ρ fun b => Lk a b fun o => Q (.v (o.getD .none))
def vGet2 (td ty tx : TV) : TV := fun ρ Q => td ρ fun a => ((∃ kvs, DicK a kvs) ∨ ∃ kvs, DicT a kvs) ∧ ty ρ fun b => tx ρ fun z => ∃ d0, z = .v d0 ∧ Lk a b fun o => Q (.v (o.getD d0))
section
variable {X : Cx} {o i e f : Expr} {pos apos cpos : Pos} {td ty tx : TV} {κ1 κ2 κ3 : Nat}
theorem ve_gitem (hu : X.A.units + 1 < cLine) (ho : VE X o td κ1) (hi : VE X i ty κ2) (hs : NoSl i) : VE X (.Subscript o i pos) (vBin fGItem td ty) (κ1 + κ2) := by
  obtain ⟨tea, pa, ga⟩ := ho
  obtain ⟨teb, pb, gb⟩ := hi
  exact ⟨_, pe_gitem hu pa pb hs, bin_go ops_gitem ga gb⟩
theorem vt_gin (hu : X.A.units + 1 < cLine) (hi : VE X i ty κ1) (ho : VE X o td κ2) (hm : behindInMarks .In o = false) : VT X (.Compare i [.In] [o] pos) (vTest (vBin (fGIn false) ty td)) (κ1 + κ2) := by
  obtain ⟨tea, pa, ga⟩ := hi
  obtain ⟨teb, pb, gb⟩ := ho
  refine ⟨_, pt_cmp (pc_gin hu pa pb) hm, fun B F H σ ρ Q R er bq t k => ?_⟩
  refine bin_go ops_gin ga gb B F H σ ρ _ (fun x H1 => ∃ d, x = .bl d ∧ R d H1) er (by omega) t fun s u F' H' cq ⟨c, e, q⟩ r => ?_
  subst e
  exact ⟨c, bool_of r.sr, k c F' H' (by omega) q r.toExt⟩
theorem ve_gin (hu : X.A.units + 1 < cLine) (hi : VE X i ty κ1) (ho : VE X o td κ2) (hm : behindInMarks .In o = false) : VE X (.Compare i [.In] [o] pos) (vBin (fGIn false) ty td) (κ1 + κ2) := by
  obtain ⟨tea, pa, ga⟩ := hi
  obtain ⟨teb, pb, gb⟩ := ho
  exact ⟨_, pe_cmp (pc_gin hu pa pb) hm, bin_go ops_gin ga gb⟩
theorem vt_gnotin (hu : X.A.units + 1 < cLine) (hi : VE X i ty κ1) (ho : VE X o td κ2) (hm : behindInMarks .NotIn o = false) : VT X (.Compare i [.NotIn] [o] pos) (vTest (vBin (fGIn true) ty td)) (κ1 + κ2) := by
  obtain ⟨tea, pa, ga⟩ := hi
  obtain ⟨teb, pb, gb⟩ := ho
  refine ⟨_, pt_cmp (pc_gnotin hu pa pb) hm, fun B F H σ ρ Q R er bq t k => ?_⟩
  refine bin_go ops_gnotin ga gb B F H σ ρ _ (fun x H1 => ∃ d, x = .bl d ∧ R d H1) er (by omega) t fun s u F' H' cq ⟨c, e, q⟩ r => ?_
  subst e
  exact ⟨c, bool_of r.sr, k c F' H' (by omega) q r.toExt⟩
theorem ve_gnotin (hu : X.A.units + 1 < cLine) (hi : VE X i ty κ1) (ho : VE X o td κ2) (hm : behindInMarks .NotIn o = false) : VE X (.Compare i [.NotIn] [o] pos) (vBin (fGIn true) ty td) (κ1 + κ2) := by
  obtain ⟨tea, pa, ga⟩ := hi
  obtain ⟨teb, pb, gb⟩ := ho
  exact ⟨_, pe_cmp (pc_gnotin hu pa pb) hm, bin_go ops_gnotin ga gb⟩
theorem ve_get1 (hu : X.A.units + 1 < cLine) (ho : VE X o td κ1) (hi : VE X e ty κ2) (m : M1 X o "get" apos e cpos) : VE X (.Call (.Attribute o "get" apos) [e] [] cpos) (vGet1 td ty) (κ1 + κ2) := by
  obtain ⟨tea, pa, ga⟩ := ho
  obtain ⟨teb, pb, gb⟩ := hi
  refine ⟨_, pe_gget1 hu pa pb m, fun B F H σ ρ Q R er bq t k => ?_⟩
  refine ga B F H σ ρ _ _ er (by omega) t fun a u F1 H1 c1 ⟨di, q1⟩ r1 => ?_
  obtain ⟨p, rfl, dd⟩ := isD_of r1.sr di
  refine ⟨p, rfl, dd, ?_⟩
  refine gb B F1 H1 σ ρ _ _ (er.step r1.toExt) (by omega) q1 fun b w F2 H2 c2 q2 r2 => ?_
  have ra := r1.sr.keep r1.fo er.refl.cp r2.toExt
  obtain ⟨p', ov, e, g, z⟩ := lk_core ra r2.sr q2
  cases e
  refine ⟨ov, g, ?_⟩
  rcases z with ⟨rfl, q⟩ | ⟨v, d, rfl, r, q⟩
  · exact k _ _ F2 H2 (by omega) q ⟨r1.toExt.trans r2.toExt, .non, trivial⟩
  · exact k _ _ F2 H2 (by omega) q ⟨r1.toExt.trans r2.toExt, r, trivial⟩
theorem ve_get2 (hu : X.A.units + 1 < cLine) (ho : VE X o td κ1) (hi : VE X e ty κ2) (hx : VE X f tx κ3) (m : M2 X o "get" apos e f cpos) : VE X (.Call (.Attribute o "get" apos) [e, f] [] cpos) (vGet2 td ty tx) (κ1 + κ2 + κ3) := by
  obtain ⟨tea, pa, ga⟩ := ho
  obtain ⟨teb, pb, gb⟩ := hi
  obtain ⟨tec, pc, gc⟩ := hx
  refine ⟨_, pe_gget2 hu pa pb pc m, fun B F H σ ρ Q R er bq t k => ?_⟩
  refine ga B F H σ ρ _ _ er (by omega) t fun a u F1 H1 c1 ⟨di, q1⟩ r1 => ?_
  obtain ⟨p, rfl, dd⟩ := isD_of r1.sr di
  refine ⟨p, rfl, dd, ?_⟩
  refine gb B F1 H1 σ ρ _ _ (er.step r1.toExt) (by omega) q1 fun b w F2 H2 c2 q2 r2 => ?_
  have x12 := r1.toExt.trans r2.toExt
  refine gc B F2 H2 σ ρ _ _ (er.step x12) (by omega) q2 fun z v0 F3 H3 c3 ⟨d0, e0, q3⟩ r3 => ?_
  subst e0
  have ra := r1.sr.keep r1.fo er.refl.cp (r2.toExt.trans r3.toExt)
  have rb := r2.sr.keep (r2.fo.back r1.toExt) er.refl.cp r3.toExt
  obtain ⟨p', ov, e, g, z⟩ := lk_core ra rb q3
  cases e
  refine ⟨ov, g, ?_⟩
  rcases z with ⟨rfl, q⟩ | ⟨v, d, rfl, r, q⟩
  · exact k _ _ F3 H3 (by omega) q ⟨x12.trans r3.toExt, r3.sr, trivial⟩
  · exact k _ _ F3 H3 (by omega) q ⟨x12.trans r3.toExt, r, trivial⟩
end
end VL
namespace VL
open PySem PySem.Spec PyProof.Rows L2 VG

section
variable {K : PySem.W.Frag} {B : Bas} {F F' : FS} {H H' : Hp} {σ : Hs} {ρ : VL.Env} {s : SV} {u : V}
theorem PRes.newC {c : CT} {p : Addr} {us : List V} {ds : List PyData} (d : FOk F H) (hp : H p = none) (r : RA K F H us ds) : PRes K F H F (upd H p (c.ho us)) (.ow c ds) (.ref p) := by
  refine ⟨Nat.le_refl _, Stp.new hp, d.new hp, ⟨p, us, rfl, upd_same, fun z => ?_, Rp.mono (Stp.new (M := fun _ => False) (F := F) hp).toFM r⟩, fun q e => ?_⟩
  · obtain ⟨xs, e, _⟩ := d p z
    rw [hp] at e; cases e
  · cases e; exact hp
/-- a slot is filled; a container that is put into it is no other slot's -/
theorem ER.put (er : ER K B F H σ ρ) (r : SlotR K F H u s) (nb : NoBrw s) (nc : ∀ a ns, s ≠ .cell a ns)
    (new : ∀ c ds p, s = .ow c ds → u = .ref p → B.H0 p = none ∧ ¬ cellsOf ρ p ∧ ∀ (j : Nat) c' ds', ρ[j]? = some (.ow c' ds') → σ[j]? ≠ some (some (.ref p))) (i : Nat) : ER K B F H (σ.set i (some u)) (ρ.set i s) := by
  have hlen := er.len
  have at_ : ∀ {j : Nat} {t : SV}, (ρ.set i s)[j]? = some t → (j = i ∧ t = s ∧ i < ρ.length) ∨ (j ≠ i ∧ ρ[j]? = some t) := fun {j t} h => by
    by_cases z : j = i
    · subst z
      refine .inl ⟨rfl, getElem?_set_eq h, ?_⟩
      have := (List.getElem?_eq_some_iff.mp h).1
      simpa using this
    · rw [List.getElem?_set_ne (Ne.symm z)] at h
      exact .inr ⟨z, h⟩
  have at2 : ∀ {j : Nat}, j ≠ i → (σ.set i (some u))[j]? = σ[j]? := fun {j} z => List.getElem?_set_ne (Ne.symm z)
  have at1 : i < ρ.length → (σ.set i (some u))[i]? = some (some u) := fun z => List.getElem?_set_self (by omega)
  have cells : ∀ {a : Addr}, cellsOf (ρ.set i s) a → cellsOf ρ a := fun {a} c => (cells_set c).elim id fun ⟨ns, e⟩ => absurd e (nc _ _)
  refine ⟨by simp [hlen], fun j t h hn => ?_, fun j c ds h => ?_, fun j k c c' ds es p h1 h2 h3 h4 => ?_, fun j c ds p h1 h2 => ?_, fun a c => er.cf a (cells c), er.bs, er.kb, er.pin, er.dm⟩
  · rcases at_ h with ⟨rfl, rfl, z⟩ | ⟨z, q⟩
    · exact ⟨u, at1 z, r⟩
    · obtain ⟨w, q1, q2⟩ := er.sl j t q hn
      exact ⟨w, (at2 z).trans q1, q2⟩
  · rcases at_ h with ⟨_, q, _⟩ | ⟨z, q⟩
    · exact nb c ds q.symm
    · exact er.nb j c ds q
  · rcases at_ h1 with ⟨rfl, q1, z1⟩ | ⟨z1, q1⟩ <;> rcases at_ h2 with ⟨rfl, q2, z2⟩ | ⟨z2, q2⟩
    · rfl
    · rw [at1 z1] at h3
      rw [at2 z2] at h4
      injection h3 with h3; injection h3 with h3
      exact absurd h4 ((new c ds p q1.symm h3).2.2 k _ _ q2)
    · rw [at1 z2] at h4
      rw [at2 z1] at h3
      injection h4 with h4; injection h4 with h4
      exact absurd h3 ((new c' es p q2.symm h4).2.2 j _ _ q1)
    · rw [at2 z1] at h3
      rw [at2 z2] at h4
      exact er.ow j k c c' ds es p q1 q2 h3 h4
  · rcases at_ h1 with ⟨rfl, q1, z1⟩ | ⟨z1, q1⟩
    · rw [at1 z1] at h2
      injection h2 with h2; injection h2 with h2
      obtain ⟨n1, n2, _⟩ := new c ds p q1.symm h2
      exact ⟨n1, fun z => n2 (cells z)⟩
    · rw [at2 z1] at h2
      obtain ⟨f1, f2⟩ := er.fr j c ds p q1 h2
      exact ⟨f1, fun z => f2 (cells z)⟩
end

/-! ### several names at once -/
/-- new containers among the results stand apart -/
def OwnD : List V → List SV → Prop
  | u :: us, s :: ss => (∀ c ds p, s = .ow c ds → u = .ref p → ¬ ownsIn us ss p) ∧ OwnD us ss
  | _, _ => True
def VD (X : Cx) (es : List Expr) (t : TVs) (κ : Nat) : Prop := ∃ ta, PA X es ta ∧
  ∀ B F H σ ρ (Q : List SV → Prop) (R : List V → Hp → Prop), ER X.K B F H σ ρ → F.ck + κ ≤ LIM → t ρ Q →
    (∀ ss us (F' : FS) H', F'.ck ≤ F.ck + κ → Q ss → Ext ρ F H F' H' → AllR X.K ρ F' H' H us ss → OwnD us ss → R us H') → ta σ H R
/-- can be put into a slot as it is -/
def SV.kp : SV → Bool
  | .un => false
  | .bw _ _ => false
  | .cell _ _ => false
  | _ => true
def keeps : List SV → Bool
  | [] => true
  | s :: ss => s.kp && keeps ss
def setAll (ρ : VL.Env) : List Nat → List SV → VL.Env
  | i :: is, s :: ss => setAll (ρ.set i s) is ss
  | _, _ => ρ
def setV (σ : Hs) : List Nat → List V → Hs
  | i :: is, u :: us => setV (σ.set i (some u)) is us
  | _, _ => σ
def vParN (is : List Nat) (t : TVs) : TVS := fun E ρ => t ρ fun ss => keeps ss = true ∧ ss.length = is.length ∧ ss.length ≤ 1000 ∧ E.nx (setAll ρ is ss)
section
variable {X : Cx} {K : PySem.W.Frag} {B : Bas} {F F' : FS} {H H' : Hp}
theorem vd_nil : VD X [] vNil 0 := ⟨_, pa_nil, fun B F H σ ρ Q R er bq t k => k [] [] F H (by omega) t er.refl trivial trivial⟩
theorem vd_cons {κ1 κ2 : Nat} {e : Expr} {es : List Expr} {t : TV} {r : TVs} (h : VE X e t κ1) (hr : VD X es r κ2) (hs : starEach (e :: es) X.env = (false, eval e X.env) :: starEach es X.env) : VD X (e :: es) (vCons t r) (κ1 + κ2) := by
  obtain ⟨te, pe, g⟩ := h
  obtain ⟨ta, pa, ga⟩ := hr
  refine ⟨_, pa_cons pe pa hs, fun B F H σ ρ Q R er bq t k => ?_⟩
  refine g B F H σ ρ _ _ er (by omega) t fun s u F1 H1 cq q1 r1 => ?_
  refine ga B F1 H1 σ ρ _ _ (er.step r1.toExt) (by omega) q1 fun ss us F2 H2 cq q2 x2 a2 d2 => ?_
  refine k (s :: ss) (u :: us) F2 H2 (by omega) q2 (r1.toExt.trans x2) ⟨r1.sr.keep r1.fo er.refl.cp x2, r1.fo, a2.back r1.toExt⟩ ⟨fun c ds p e1 e2 z => ?_, d2⟩
  subst e1 e2
  obtain ⟨p', ws, e3, q3, _⟩ := r1.sr
  cases e3
  have := (AllR.owns a2 _ z).1
  rw [this] at q3; cases q3
/-- what is still to be put into slots -/
def Pend (K : PySem.W.Frag) (B : Bas) (F : FS) (H : Hp) (σ : Hs) (ρ : VL.Env) : List V → List SV → Prop
  | u :: us, s :: ss => (SlotR K F H u s ∧ ∀ c ds p, s = .ow c ds → u = .ref p → B.H0 p = none ∧ ¬ cellsOf ρ p ∧ ∀ (j : Nat) c' ds', ρ[j]? = some (.ow c' ds') → σ[j]? ≠ some (some (.ref p))) ∧ Pend K B F H σ ρ us ss
  | [], [] => True
  | _, _ => False
theorem Pend.len {σ : Hs} {ρ : VL.Env} : ∀ {us : List V} {ss : List SV}, Pend K B F H σ ρ us ss → us.length = ss.length
  | [], [], _ => rfl
  | _ :: _, _ :: _, ⟨_, h⟩ => congrArg Nat.succ (Pend.len h)
  | [], _ :: _, h => h.elim
  | _ :: _, [], h => h.elim
theorem par_go : ∀ (is : List Nat) (us : List V) (ss : List SV) (σ : Hs) (ρ : VL.Env), ER K B F H σ ρ → Pend K B F H σ ρ us ss → OwnD us ss → keeps ss = true → ER K B F H (setV σ is us) (setAll ρ is ss)
  | [], us, ss, σ, ρ, er, _, _, _ => by cases us <;> cases ss <;> exact er
  | _ :: _, [], [], σ, ρ, er, _, _, _ => er
  | _ :: _, [], _ :: _, _, _, _, pd, _, _ => pd.elim
  | _ :: _, _ :: _, [], _, _, _, pd, _, _ => pd.elim
  | i :: is, u :: us, s :: ss, σ, ρ, er, ⟨⟨r, nw⟩, pd⟩, ⟨d1, od⟩, hk => by
    simp only [keeps, Bool.and_eq_true] at hk
    have nc : ∀ a ns, s ≠ .cell a ns := fun a ns z => by subst z; cases hk.1
    have nb : NoBrw s := fun c ds z => by subst z; cases hk.1
    have er1 := er.put r nb nc nw i
    have pd1 : ∀ (us : List V) (ss : List SV), Pend K B F H σ ρ us ss → (∀ c ds p, s = .ow c ds → u = .ref p → ¬ ownsIn us ss p) → Pend K B F H (σ.set i (some u)) (ρ.set i s) us ss := by
      intro us
      induction us with
      | nil => intro ss h _; cases ss with | nil => trivial | cons _ _ => exact h.elim
      | cons w us ih2 =>
        intro ss h hn
        cases ss with
        | nil => exact h.elim
        | cons t ss =>
          obtain ⟨⟨r2, n2⟩, h2⟩ := h
          refine ⟨⟨r2, fun c ds p q1 q2 => ?_⟩, ih2 ss h2 fun c ds p q1 q2 z => hn c ds p q1 q2 (ownsIn_sub z)⟩
          obtain ⟨a1, a2, a3⟩ := n2 c ds p q1 q2
          refine ⟨a1, fun z => a2 ((cells_set z).elim id fun ⟨ns, e⟩ => absurd e (nc _ _)), fun j c' ds' q3 q4 => ?_⟩
          by_cases hj : j = i
          · subst hj
            have e3 := getElem?_set_eq q3
            have hi : j < ρ.length := by have := (List.getElem?_eq_some_iff.mp q3).1; simpa using this
            rw [List.getElem?_set_self (by rw [er.len]; exact hi)] at q4
            injection q4 with q4; injection q4 with q4
            refine hn c' ds' p e3.symm q4 ?_
            subst q1 q2
            exact .inl rfl
          · rw [List.getElem?_set_ne (Ne.symm hj)] at q3 q4
            exact a3 j c' ds' q3 q4
    exact par_go is us ss _ _ er1 (pd1 us ss pd d1) od hk.2
theorem pend_of {ρ : VL.Env} {σ : Hs} (er : ER K B F' H' σ ρ) (old : ∀ p, H p = none → B.H0 p = none) (er0 : ER K B F H σ ρ) (cp : ∀ a, cellsOf ρ a → H a ≠ none) :
    ∀ {us : List V} {ss : List SV}, AllR K ρ F' H' H us ss → Pend K B F' H' σ ρ us ss
  | [], [], _ => trivial
  | [], _ :: _, h => h.elim
  | _ :: _, [], h => h.elim
  | u :: us, s :: ss, ⟨r, fo, h⟩ => by
    refine ⟨⟨r, fun c ds p e1 e2 => ?_⟩, pend_of er old er0 cp h⟩
    subst e1 e2
    have hp : H p = none := fo p rfl
    refine ⟨old p hp, fun z => cp p z hp, fun j c' ds' q1 q2 => ?_⟩
    obtain ⟨w, q3, p', ws, q4, q5, _⟩ := er0.sl j _ q1 (fun z => nomatch z)
    rw [q3] at q2
    injection q2 with q2; injection q2 with q2
    subst q2
    cases q4
    rw [hp] at q5; cases q5
/-- names as targets, one behind the other -/
def gNames : List Nat → TGs
  | [] => fun xs σ H Q => xs = [] ∧ Q σ H
  | i :: is => fun xs σ H Q => ∃ x r, xs = x :: r ∧ gNames is r (σ.set i (some x)) H Q
theorem gn_go {H : Hp} {Q : Hs → Hp → Prop} : ∀ (is : List Nat) (us : List V) (σ : Hs), us.length = is.length → Q (setV σ is us) H → gNames is us σ H Q
  | [], [], _, _, h => ⟨rfl, h⟩
  | [], _ :: _, _, e, _ => by cases e
  | _ :: _, [], _, e, _ => by cases e
  | i :: is, u :: us, σ, e, h => ⟨u, us, rfl, gn_go is us _ (by simpa using e) h⟩
theorem vs_parN {κ : Nat} {is : List Nat} {st : Stmt} {es : List Expr} {t : TVs} (h : ∀ ta, PA X es ta → PS X st (tAsg (tTup ta) (gTup X.K is.length (gNames is)))) (ha : VD X es t κ) : VS X st (vParN is t) κ := by
  obtain ⟨ta, pa, g⟩ := ha
  refine ⟨_, h ta pa, fun B F H σ ρ E D er bq t k => ?_⟩
  refine g B F H σ ρ _ _ er (by omega) t fun ss us F' H' cq ⟨kp, hl, hz, q⟩ x al od => ?_
  have lu := al.len
  refine ⟨small (by omega), fun p hp => ⟨p, us, rfl, SqT.of upd_same, by omega, ?_⟩⟩
  have er' := er.step x
  have old : ∀ q, H q = none → B.H0 q = none := fun q z => by
    by_cases w : B.H0 q = none
    · exact w
    · exact absurd z (er.bs.ex q w)
  have st : Stp (fun _ => False) F' F' H' (upd H' p (.tup us)) := Stp.new hp
  have x2 : Ext ρ F H F' (upd H' p (.tup us)) := x.pure st (x.dm.new hp)
  have al2 := al.keep er.refl.cp (⟨st.more fun _ z => z.elim, x2.dm, x2.cl, fun a ⟨i, ns, e⟩ => (er'.cell e).there⟩ : Ext ρ F' H' F' (upd H' p (.tup us)))
  have er2 := er.step x2
  exact gn_go is us σ (by omega) (k.nx F' _ _ _ (by omega) (par_go is us ss σ ρ er2 (pend_of er2 old er er.refl.cp al2) od kp) q)
theorem vs_par2 {κ : Nat} {i j : Nat} {st : Stmt} {es : List Expr} {t : TVs} (h : ∀ ta, PA X es ta → PS X st (tPar i j ta)) (ha : VD X es t κ) : VS X st (vParN [i, j] t) κ := by
  obtain ⟨ta, pa, g⟩ := ha
  refine ⟨_, h ta pa, fun B F H σ ρ E D er bq t k => ?_⟩
  refine g B F H σ ρ _ _ er (by omega) t fun ss us F' H' cq ⟨kp, hl, hz, q⟩ x al od => ?_
  have lu := al.len
  have er' := er.step x
  have old : ∀ q, H q = none → B.H0 q = none := fun q z => by
    by_cases w : B.H0 q = none
    · exact w
    · exact absurd z (er.bs.ex q w)
  have hl : ss.length = 2 := hl
  obtain ⟨s, z, rfl⟩ : ∃ s z, ss = [s, z] := by
    cases ss with
    | nil => cases hl
    | cons s ss =>
      cases ss with
      | nil => cases hl
      | cons z ss =>
        cases ss with
        | nil => exact ⟨s, z, rfl⟩
        | cons _ _ => cases hl
  obtain ⟨u, w, rfl⟩ : ∃ s z, us = [s, z] := by
    cases us with
    | nil => cases lu
    | cons s us =>
      cases us with
      | nil => cases lu
      | cons z us =>
        cases us with
        | nil => exact ⟨s, z, rfl⟩
        | cons _ _ => cases lu
  exact ⟨u, w, rfl, k.nx F' H' _ _ (by omega) (par_go [i, j] [u, w] [s, z] σ ρ er' (pend_of er' old er er.refl.cp al) od kp) q⟩
end
end VL
namespace VL
open PySem PySem.Spec PyProof.Rows L2 VG

def vDNewK : TV := fun _ Q => Q (odK [])
def vDNewT : TV := fun _ Q => Q (odT [])
section
variable {X : Cx} {pos : Pos} {st : Stmt} {i : Nat} {κ1 κ2 : Nat}
theorem ve_dnewK : VE X (.Dict [] [] pos) vDNewK 0 := ⟨_, pe_dnewK, fun B F H σ ρ Q R er bq t k p hp =>
  k _ _ F _ (by omega) t ((PRes.newC (c := .K []) (us := []) (ds := []) er.dm hp .nil).res er.refl fun _ _ z => nomatch z)⟩
theorem ve_dnewT : VE X (.Dict [] [] pos) vDNewT 0 := ⟨_, pe_dnewT, fun B F H σ ρ Q R er bq t k p hp =>
  k _ _ F _ (by omega) t ((PRes.newC (c := .T []) (us := []) (ds := []) er.dm hp .nil).res er.refl fun _ _ z => nomatch z)⟩
/-- d[k] = v, the key an int or a text -/
def vPutK (i : Nat) (tk tv : TV) : TVS := fun E ρ => ∃ kvs, ρ[i]? = some (odK kvs) ∧ tv ρ fun z => ∃ dv, datasIn [z] = some [dv] ∧ tk ρ fun s => ∃ d k, s = .v d ∧ keyOf d = some k ∧ kvs.length < 100000 ∧ E.nx (ρ.set i (odK (gPut kvs k dv)))
/-- d[a, ..] = v -/
def vPutT (i : Nat) (tk : TVs) (tv : TV) : TVS := fun E ρ => ∃ kvs, ρ[i]? = some (odT kvs) ∧ tv ρ fun z => ∃ dv, datasIn [z] = some [dv] ∧ tk ρ fun ss => ∃ k, datasIn ss = some (k.map kD) ∧ k.length ≤ 100000 ∧ kvs.length < 100000 ∧ E.nx (ρ.set i (odT (gPut kvs k dv)))
theorem own_dk {B : Bas} {F : FS} {H : Hp} {σ : Hs} {ρ : VL.Env} {K : PySem.W.Frag} (er : ER K B F H σ ρ) {kvs : List (L2.Key × PyData)} (h : ρ[i]? = some (odK kvs)) :
    ∃ p us, σ[i]? = some (some (.ref p)) ∧ H p = some (.dK us) ∧ ¬ F p ∧ us.map (·.1) = kvs.map (·.1) ∧ RA K F H (us.map (·.2)) (kvs.map (·.2)) := by
  obtain ⟨p, us, h1, h2, nf, r⟩ := er.own h
  obtain ⟨z1, z2⟩ := zip_of r
  exact ⟨p, _, h1, h2, nf, z1, by rw [z2]; exact r⟩
theorem own_dt {B : Bas} {F : FS} {H : Hp} {σ : Hs} {ρ : VL.Env} {K : PySem.W.Frag} (er : ER K B F H σ ρ) {kvs : List (List L2.Key × PyData)} (h : ρ[i]? = some (odT kvs)) :
    ∃ p us, σ[i]? = some (some (.ref p)) ∧ H p = some (.dT us) ∧ ¬ F p ∧ us.map (·.1) = kvs.map (·.1) ∧ RA K F H (us.map (·.2)) (kvs.map (·.2)) := by
  obtain ⟨p, us, h1, h2, nf, r⟩ := er.own h
  obtain ⟨z1, z2⟩ := zip_of r
  exact ⟨p, _, h1, h2, nf, z1, by rw [z2]; exact r⟩
theorem ER.writeK {B : Bas} {F : FS} {H : Hp} {σ : Hs} {ρ : VL.Env} {K : PySem.W.Frag} (er : ER K B F H σ ρ) {kvs kvs' : List (L2.Key × PyData)} {p : Addr} {us vs : List (L2.Key × V)} (h : ρ[i]? = some (odK kvs)) (h1 : σ[i]? = some (some (.ref p)))
    (h2 : H p = some (.dK us)) (nf : ¬ F p) (e0 : us.map (·.1) = kvs.map (·.1)) (e : vs.map (·.1) = kvs'.map (·.1)) (r : RA K F H (vs.map (·.2)) (kvs'.map (·.2))) : ER K B F (upd H p (.dK vs)) σ (ρ.set i (odK kvs')) := by
  have e1 : (CT.K (kvs'.map (·.1))).ho (vs.map (·.2)) = .dK vs := by show HO.dK _ = _; rw [← e, zipV_back rfl rfl]
  have e2 : (CT.K (kvs.map (·.1))).ho (us.map (·.2)) = .dK us := by show HO.dK _ = _; rw [← e0, zipV_back rfl rfl]
  have := er.write (c1 := .K (kvs'.map (·.1))) (us := us.map (·.2)) h h1 (by rw [e2]; exact h2) nf r
  rwa [e1] at this
theorem ER.writeT {B : Bas} {F : FS} {H : Hp} {σ : Hs} {ρ : VL.Env} {K : PySem.W.Frag} (er : ER K B F H σ ρ) {kvs kvs' : List (List L2.Key × PyData)} {p : Addr} {us vs : List (List L2.Key × V)} (h : ρ[i]? = some (odT kvs)) (h1 : σ[i]? = some (some (.ref p)))
    (h2 : H p = some (.dT us)) (nf : ¬ F p) (e0 : us.map (·.1) = kvs.map (·.1)) (e : vs.map (·.1) = kvs'.map (·.1)) (r : RA K F H (vs.map (·.2)) (kvs'.map (·.2))) : ER K B F (upd H p (.dT vs)) σ (ρ.set i (odT kvs')) := by
  have e1 : (CT.T (kvs'.map (·.1))).ho (vs.map (·.2)) = .dT vs := by show HO.dT _ = _; rw [← e, zipV_back rfl rfl]
  have e2 : (CT.T (kvs.map (·.1))).ho (us.map (·.2)) = .dT us := by show HO.dT _ = _; rw [← e0, zipV_back rfl rfl]
  have := er.write (c1 := .T (kvs'.map (·.1))) (us := us.map (·.2)) h h1 (by rw [e2]; exact h2) nf r
  rwa [e1] at this
theorem len_of {κ : Type} {us : List (κ × V)} {kvs : List (κ × PyData)} (e : us.map (·.1) = kvs.map (·.1)) : us.length = kvs.length := by
  have := congrArg List.length e
  simpa using this
theorem vs_putK {tk tv : TV} {ek ev : Expr} (h : ∀ ty tw, PE X ek ty → PE X ev tw → PS X st (sDPut (tVar i) ty tw)) (hk : VE X ek tk κ1) (hv : VE X ev tv κ2) : VS X st (vPutK i tk tv) (κ2 + κ1) := by
  obtain ⟨tke, pk, gk⟩ := hk
  obtain ⟨tve, pv, gv⟩ := hv
  refine ⟨_, h tke tve pk pv, fun B F H σ ρ E D er bq ⟨kvs, e0, t⟩ kk => ?_⟩
  refine gv B F H σ ρ _ _ er (by omega) t fun z u F1 H1 c1 ⟨dv, e1, q1⟩ x => ?_
  obtain ⟨F2, ce, x2, r⟩ := data_all (us := [u]) (ss := [z]) x.toExt ⟨x.sr, x.fo, trivial⟩ e1
  have er2 := er.step x2
  obtain ⟨p, us, h1, _⟩ := own_dk er2 e0
  refine ⟨.ref p, h1, ?_⟩
  refine gk B F2 H1 σ ρ _ _ er2 (by omega) q1 fun s w F3 H3 c3 ⟨d, k, e3, ek, hl, q⟩ x3 => ?_
  subst e3
  have er3 := er2.step x3.toExt
  obtain ⟨p', us', h1', h2', nf, em, ra⟩ := own_dk er3 e0
  rw [h1] at h1'
  injection h1' with h1'; injection h1' with h1'; injection h1' with h1'
  subst h1'
  have ew := key_of x3.sr ek
  subst ew
  have lu := len_of em
  have zl : sizeLine = 16777216 := rfl
  obtain ⟨g1, g2⟩ := g_put (k := k) em ra (Rp.mono x3.st.toFM (RA.uncons r).1)
  exact ⟨p, _, rfl, DPut.k h2' (by omega), kk.nx F3 _ _ _ (by omega) (er3.writeK e0 h1 h2' nf em g1 g2) q⟩
theorem vs_putT {tk : TVs} {tv : TV} {es : List Expr} {ek ev : Expr} (h : ∀ ty tw, PE X ek ty → PE X ev tw → PS X st (sDPut (tVar i) ty tw)) (ht : ∀ ta, PA X es ta → PE X ek (tTup ta)) (hk : VA X es tk κ1) (hv : VE X ev tv κ2) : VS X st (vPutT i tk tv) (κ2 + κ1) := by
  obtain ⟨tke, pk, gk⟩ := hk
  obtain ⟨tve, pv, gv⟩ := hv
  refine ⟨_, h _ tve (ht tke pk) pv, fun B F H σ ρ E D er bq ⟨kvs, e0, t⟩ kk => ?_⟩
  refine gv B F H σ ρ _ _ er (by omega) t fun z u F1 H1 c1 ⟨dv, e1, q1⟩ x => ?_
  obtain ⟨F2, ce, x2, r⟩ := data_all (us := [u]) (ss := [z]) x.toExt ⟨x.sr, x.fo, trivial⟩ e1
  have er2 := er.step x2
  obtain ⟨p, us, h1, _⟩ := own_dt er2 e0
  refine ⟨.ref p, h1, ?_⟩
  refine gk B F2 H1 σ ρ _ _ er2 (by omega) q1 fun ss ws F3 H3 c3 ⟨k, ek, hz, hl, q⟩ x3 al => ?_
  obtain ⟨F4, ce4, x4, rk⟩ := data_all x3 al ek
  have ew := ra_keys rk
  subst ew
  refine ⟨small (by rw [List.length_map]; exact hz), fun b hb => ?_⟩
  have st : Stp (fun _ => False) F4 F4 H3 (upd H3 b (.tup (k.map kV))) := Stp.new hb
  have x5 := x4.pure st (x4.dm.new hb)
  have er5 := er2.step x5
  obtain ⟨p', us', h1', h2', nf, em, ra⟩ := own_dt er5 e0
  rw [h1] at h1'
  injection h1' with h1'; injection h1' with h1'; injection h1' with h1'
  subst h1'
  have lu := len_of em
  have zl : sizeLine = 16777216 := rfl
  obtain ⟨g1, g2⟩ := g_put (k := k) em ra (Rp.mono x5.st.toFM (RA.uncons r).1)
  exact ⟨p, _, rfl, DPut.t (k := k) h2' upd_same (by omega), kk.nx F4 _ _ _ (by omega) (er5.writeT e0 h1 h2' nf em g1 g2) q⟩
end

/-! ### x += e, x -= e -/
def vAug (i : Nat) (f : Int → Int → Int) (t : TV) : TVS := fun E ρ => ∃ a, ρ[i]? = some (.v (.int a)) ∧ t ρ fun s => isI s fun b => E.nx (ρ.set i (.v (.int (f a b))))
theorem vs_aug {X : Cx} {i κ : Nat} {st : Stmt} {e : Expr} {t : TV} {f : Int → Int → Int} (h : ∀ te, PE X e te → PS X st (tAug i te (ipI f))) (he : VE X e t κ) : VS X st (vAug i f t) κ := by
  obtain ⟨te, pe, g⟩ := he
  refine ⟨_, h te pe, fun B F H σ ρ E D er bq ⟨a, e0, q⟩ k => ?_⟩
  obtain ⟨u, h1, h2⟩ := er.sl i _ e0 (fun z => nomatch z)
  have e1 := int_of h2
  subst e1
  refine ⟨_, h1, ?_⟩
  refine g B F H σ ρ _ _ er (by omega) q fun s w F1 H1 c1 ⟨b, e2, q1⟩ x => ?_
  subst e2
  have ew := int_of x.sr
  subst ew
  exact ⟨a, b, rfl, rfl, k.nx F1 H1 _ _ (by omega) (er.set (s := .v (.int (f a b))) ⟨x.toExt, .int _, trivial⟩ (fun _ _ z => nomatch z) i) q1⟩

/-! ### x is True -/
def fIsB (neg : Bool) : FB := fun a b Q => ∃ x y, a = .v (.bool x) ∧ b = .v (.bool y) ∧ Q (.v (.bool (if neg then !(x == y) else (x == y))))
theorem dec_beq (x y : Bool) : decide (x = y) = (x == y) := by cases x <;> cases y <;> rfl
theorem ops_isB {K : PySem.W.Frag} : OpS K (fun x y H Q => ∃ a b : Bool, x = .bl a ∧ y = .bl b ∧ Q (.bl (decide (a = b))) H) (fIsB false) := by
  intro F H u w a b Q R fo ra rb ⟨x, y, e1, e2, q⟩ k
  subst e1 e2
  refine ⟨x, y, bool_of ra, bool_of rb, ?_⟩
  rw [dec_beq]
  exact k _ _ F H q (fun _ _ z => nomatch z) (.same fo (.bl _))
theorem ops_notB {K : PySem.W.Frag} : OpS K (fun x y H Q => ∃ a b : Bool, x = .bl a ∧ y = .bl b ∧ Q (.bl (!decide (a = b))) H) (fIsB true) := by
  intro F H u w a b Q R fo ra rb ⟨x, y, e1, e2, q⟩ k
  subst e1 e2
  refine ⟨x, y, bool_of ra, bool_of rb, ?_⟩
  rw [dec_beq]
  exact k _ _ F H q (fun _ _ z => nomatch z) (.same fo (.bl _))

/-! ### isinstance(x, (list, tuple)) -/
theorem Sh.keep {K : PySem.W.Frag} {F F' : FS} {H H' : Hp} {u : V} {d : PyData} (h : Sh K H u d) (st : Stp (fun _ => False) F F' H H') : Sh K H' u d := by
  have kp : ∀ a o, H a = some o → H' a = some o := fun a o e => st.kp a o e id
  cases h with
  | non => exact .non
  | bl b => exact .bl b
  | int i => exact .int i
  | str x => exact .str x
  | lst q =>
    rename_i a xs ds
    refine .lst (xs := xs) ?_
    rcases q with (q | ⟨o, q⟩) | q
    · exact .inl (.inl (kp _ _ q))
    · exact .inl (.inr ⟨o, kp _ _ q⟩)
    · exact .inr q
  | tup q => exact .tup (st.toFM.sqt q)
  | dic q => exact .dic (kp _ _ q)
def vIsi2 (S T : String) (t : TV) : TV := fun ρ Q => t ρ fun s => ∃ d, s.asD = some d ∧ Q (.v (.bool (isT S d || isT T d)))
theorem ve_isi2 {X : Cx} {κ1 : Nat} {e f : Expr} {t : TV} {S T : String} (h : ∀ te, PE X e te → PE X f (tCB (rIsiT X.K) (tCons te (tCons (tTup (tCons (tC (.ty S)) (tCons (tC (.ty T)) tNil))) tNil)))) (hS : TyOk S) (hT : TyOk T) (hcS : ClsV (.ty S) (.type S)) (hcT : ClsV (.ty T) (.type T))
    (hk : ∀ n ∈ ["NoneType", "bool", "int", "str", "list", "tuple", "dict"], ∀ K, PySem.W.kitAny K (.type n) [.type S, .type T] = some ((n == S || (n == "bool" && S == "int")) || (n == T || (n == "bool" && T == "int")))) (he : VE X e t κ1) : VE X f (vIsi2 S T t) κ1 := by
  obtain ⟨te, pe, g⟩ := he
  refine ⟨_, h te pe, fun B F H σ ρ Q R er bq t k => ?_⟩
  refine g B F H σ ρ _ _ er (by omega) t fun s u F' H' cq ⟨d, e1, q⟩ x => ?_
  have sh := asD_sh x.sr e1
  refine ⟨by show 2 ≤ sizeLine; decide, fun p hp => ?_⟩
  have hty : TyX X.K (upd H' p (.tup [.ty S, .ty T])) u (.type (tyName d)) := by
    refine ty_of (d := d) ?_
    have st : Stp (fun _ => False) F' F' H' (upd H' p (.tup [V.ty S, V.ty T])) := Stp.new hp
    exact sh.keep st
  have hm : tyName d ∈ ["NoneType", "bool", "int", "str", "list", "tuple", "dict"] := by cases d <;> simp [tyName]
  refine ⟨u, p, [.ty S, .ty T], .type (tyName d), [.type S, .type T], isT S d || isT T d, rfl, upd_same, .cons hcS (.cons hcT .nil), hty, hk _ hm X.K, ?_⟩
  have st : Stp (fun _ => False) F' F' H' (upd H' p (.tup [V.ty S, V.ty T])) := Stp.new hp
  exact k _ _ F' _ (by omega) q ⟨x.toExt.pure st (x.dm.new hp), .bl _, trivial⟩
end VL
namespace VL
open PySem PySem.Spec PyProof.Rows L2 VG

section
set_option maxHeartbeats 1000000 in
theorem en_meets (l : Addr) (items : Array Value) : Meets (Builtin.«enumerate.__new__» ⟨[.type "enumerate", .ref l], []⟩) (fun _ R s => s.heap.IsTuple l items ∧
    R (.ok (.ret (.ref (s.heap.push { cls := .type "tuple_iterator", data := .fields #[.ref l, .int 0 0] }).objs.size)))
      { s with heap := (s.heap.push { cls := .type "tuple_iterator", data := .fields #[.ref l, .int 0 0] }).push { cls := .type "enumerate", data := .fields #[.none, .bool false, .ref s.heap.objs.size, rawInt 0, .none, .none] } }) :=
  .of_wp fun prog w A R s h => by
    obtain ⟨hp, g, d, tk, os⟩ := s
    obtain ⟨h1, h⟩ := h
    have hsub := sub_enumerate
    have q1 : ∀ {A' : Around} {E : Value → Shared → Prop} {Q : Value → Shared → Prop}, Q (.ref hp.objs.size) ⟨hp.push { cls := .type "tuple_iterator", data := .fields #[.ref l, .int 0 0] }, g, d, tk, os⟩ →
        wpAny (model prog w) A' (pyIter (.ref l)) Q E ⟨hp, g, d, tk, os⟩ := fun q => wpAny_pyIter_tuple (s := ⟨hp, g, d, tk, os⟩) h1 q
    wp_walk using q1
    refine wpAny_stack_any fun st => wpAny_pure ?_
    split
    · rename_i c _ _ _ _ _
      cases (c == Value.type "enumerate") <;>
      · wp_walk using q1
        exact ⟨_, rfl, h⟩
    · wp_walk using q1
      exact ⟨_, rfl, h⟩
variable {prog : Program} {w : World} {A : Around} {E : Value → Shared → Prop} {s : Shared}
theorem call_enumT {l : Addr} {items : Array Value} {Q : Value → Shared → Prop} (hl : s.heap.IsTuple l items)
    (h : ∀ h', IsEnum h' (s.heap.objs.size + 1) s.heap.objs.size 0 .none → h'.IsTupleIter s.heap.objs.size l 0 → h'.objs.size = s.heap.objs.size + 2 → (∀ b o, s.heap.get? b = some o → h'.get? b = some o) → Q (.ref (s.heap.objs.size + 1)) { s with heap := h' }) :
    wpAny (model prog w) A (call (.type "enumerate") [.ref l]) Q E s := by
  refine callType_new F.called_enumerate (by decide) (F.typeCall_enumerate_1 _) (F.newCall_enumerate_1 _) (fun obj => F.args_object_init_2 obj _) F.entry_enumerate_new (en_meets l items) ⟨hl, ?_⟩
  let o1 : Obj := { cls := .type "tuple_iterator", data := .fields #[.ref l, .int 0 0] }
  have hz : (s.heap.push o1).objs.size = s.heap.objs.size + 1 := Heap.size_push ..
  show _ ∧ _
  rw [show (s.heap.push { cls := .type "tuple_iterator", data := .fields #[.ref l, .int 0 0] }).objs.size = s.heap.objs.size + 1 from hz]
  have he : IsEnum ((s.heap.push o1).push { cls := .type "enumerate", data := .fields #[.none, .bool false, .ref s.heap.objs.size, rawInt 0, .none, .none] }) (s.heap.objs.size + 1) s.heap.objs.size 0 .none := by
    have := Heap.get?_push_size (s.heap.push o1) (o := { cls := .type "enumerate", data := .fields #[.none, .bool false, .ref s.heap.objs.size, rawInt 0, .none, .none] }) rfl
    rw [hz] at this; exact this
  exact ⟨⟨_, he, rfl⟩, h _ he ⟨o1, Heap.get?_push_of_some _ (Heap.get?_push_size _ rfl), rfl, rfl⟩ (by rw [Heap.size_push, hz]) fun b o x => Heap.get?_push_of_some _ (Heap.get?_push_of_some _ x)⟩
end
/-- the tuple at a, each item behind its number in a new pair -/
def IteT (K : PySem.W.Frag) (a : Addr) : It :=
  ⟨fun i H => ∃ (xs : List V) (x : V), SqT K H a xs ∧ xs[i]? = some x, fun i H v H' => ∃ T x, v = .ref T ∧ H T = none ∧ H' = upd H T (.tup [.int (i : Nat), x]) ∧ ∀ xs, SqT K H a xs → xs[i]? = some x, fun i H => ∃ xs : List V, SqT K H a xs ∧ xs.length ≤ i⟩
theorem turn_enT {P : Program} {w : World} {K : PySem.W.Frag} {elts : List Expr} {kk : Nat} {tpos : Pos} (a e it : Addr) :
    Turn P w K (.Tuple elts kk tpos) (IteT K a) [e, it] e (fun i h => (∃ old, IsEnum h e it ((i : Nat) : Int) old) ∧ h.IsTupleIter it a i ∧ e ≠ it ∧ a ≠ it ∧ a ≠ e) where
  mem := by simp
  obj := fun i h st b hb => by
    obtain ⟨⟨old, he⟩, ⟨o, ho, hc, hd⟩, _⟩ := st
    have e' : b = e ∨ b = it := by simpa using hb
    rcases e' with z | z
    · rw [z]; exact ⟨_, he, fun v q => nomatch q⟩
    · rw [z]; exact ⟨o, ho, fun v q => by rw [hd] at q; cases q⟩
  keep := fun i h h' st k => let ⟨⟨old, he⟩, hi, hne⟩ := st; ⟨⟨old, k e (by simp) _ he⟩, hi.at fun o q => k it (by simp) o q, hne⟩
  item := by
    intro X hP hw hK hc i pins s σ H E I hf st hg
    subst hP hw hK
    obtain ⟨⟨old, he⟩, hit, hne, hai, hae⟩ := st
    obtain ⟨xs, x, hq, hx⟩ := hg
    obtain ⟨its, rv, p, hz⟩ := I.tuple hq
    obtain ⟨u, hu, ru⟩ := rv.get hx
    have hel : e < s.heap.objs.size := Heap.lt_size he
    have hil : it < s.heap.objs.size := by obtain ⟨_, q, _⟩ := hit; exact Heap.lt_size q
    have hlt : i < its.toArray.size := by rw [List.size_toArray]; exact (List.getElem?_eq_some_iff.mp hu).1
    refine wpAny_pyNext_enum_itemD (Draws.tuple (A := X.A.in1) (I.ok.hd hc) it a hai its.toArray) he ⟨hit, show s.heap.IsTuple a its.toArray from p⟩ hlt hne (by simp [hne, Ne.symm hae]) fun x' h' tk hx' ho st' hT hsz hk => ?_
    have ex : x' = u := by
      have q : its[i]? = some x' := by simpa using hx'
      rw [hu] at q; exact (Option.some.inj q).symm
    subst ex
    refine ⟨_, rfl, wpAny_letOwnedTupleGo_enum (s := { s with heap := h', toks := tk + 1 }) ho fun h'' he' sb => ?_⟩
    have hT2 := (sb.2 _ (Nat.ne_of_gt hel)).trans hT
    have new : ObjOk X.prog X.w (upd H s.heap.objs.size (.tup [.int (i : Nat), x])) h'' s.heap.objs.size (.tup [.int (i : Nat), x]) := ⟨by show 2 ≤ sizeLine; decide, [.int i tk, x'], .cons ⟨_, rfl⟩ (.cons ru .nil), ⟨_, hT2, rfl, _, rfl⟩⟩
    have I1 : Inv X pins σ (upd H s.heap.objs.size (.tup [.int (i : Nat), x])) { s with heap := h'', toks := tk + 1 } :=
      I.turnedNew (ch := [e, it]) (fun b ob hb q => (sb.2 b (fun z => hb (by simp [z]))).trans (hk b ob (fun z => hb (by simp [z])) (fun z => hb (by simp [z])) q)) hf (Nat.le_refl _) new
    refine ⟨.ref s.heap.objs.size, _, I1, rfl, ⟨_, x, rfl, I.hok.fresh (Nat.le_refl _), rfl, fun ys hy => by rw [I.tuple_inj hy hq]; exact hx⟩, ⟨⟨x', ?_⟩, st'.1.at fun o q => (sb.2 it (Ne.symm hne)).trans q, hne, hai, hae⟩, fun b hb => ?_⟩
    · have e1 : ((i + 1 : Nat) : Int) = (i : Int) + 1 := by omega
      rw [e1]; exact he'
    · have hb' : b < s.heap.objs.size := by
        have e' : b = e ∨ b = it := by simpa using hb
        rcases e' with z | z
        · rw [z]; exact hel
        · rw [z]; exact hil
      rw [upd_ne (Nat.ne_of_lt hb')]
      exact (hf b hb).1
  done := by
    intro X hP hw hK hc i pins s σ H E I hf st hg
    subst hP hw hK
    obtain ⟨⟨old, he⟩, hit, hne, hai, hae⟩ := st
    obtain ⟨xs, hq, hx⟩ := hg
    obtain ⟨its, rv, p, hz⟩ := I.tuple hq
    obtain ⟨f0, f1, f2, f3, f4, f5⟩ := hf it (by simp)
    have hl := rv.length
    have hle : its.length ≤ i := by omega
    have D : Draws X.prog X.w X.A.in1 it [it, a] i (fun j v => False) (fun j h => h.IsTupleIter it a j ∧ h.IsTuple a its.toArray ∧ i ≤ j) :=
      ⟨fun _ _ st => let ⟨o, ho, _⟩ := st.1; ⟨o, ho⟩, fun _ _ _ st hk => ⟨st.1.at fun o e => hk it (by simp) o e, st.2.1.at fun o e => hk a (by simp) o e, st.2.2⟩, fun j s Q E hj st _ => absurd st.2.2 (by omega), fun s Q E st hE => wpAny_nextOf_tuple_end (I.ok.hd hc) st.1 st.2.1 (by simpa using hle) hE⟩
    exact wpAny_pyNext_enum_endD D he ⟨hit, show s.heap.IsTuple a its.toArray from p, Nat.le_refl _⟩ fun h' eb => ⟨rfl, I.turned (t' := s.toks) (fun b o hb q => eb b o hb q) f0 f1 f3 f4 f5⟩
  self := fun A i s Q E st h => let ⟨⟨_, he⟩, _⟩ := st; wpAny_pyIter_enum he h
def iEnumA (K : PySem.W.Frag) (ta : TA) : TI := fun σ H R => ta σ H fun vs H1 => ∃ a xs, vs = [.ref a] ∧ ((SqL K H1 a xs ∧ R (Ite K a) H1) ∨ (SqT K H1 a xs ∧ R (IteT K a) H1))
theorem pi_enumA {X : Cx} {e : Expr} {ta : TA} {p pos tpos : Pos} {elts : List Expr} {kk : Nat} (hg : Gl X "enumerate") (hm : X.mg "enumerate" = none) (ha : PA X [e] ta) (hs : starEach [e] X.env = [(false, eval e X.env)] := by rfl) :
    PI X (.Tuple elts kk tpos) (.Call (.Name "enumerate" p) [e] [] pos) (iEnumA X.K ta) :=
  ⟨fun pins s σ H R I h => Call_ (ld_blt I hg hm boot_enumerate (PyProof.Rows.callWith_type1 (thn (ha.run pos pins s σ H _ I h) fun us s1 ⟨vs, H1, I1, r1, a, xs, ex, q1⟩ => by
    subst ex
    obtain ⟨u, rfl, r⟩ := vals1 r1
    obtain rfl : u = Value.ref a := r
    have new2 : ∀ b ∈ [s1.heap.objs.size + 1, s1.heap.objs.size], FpOk X pins H1 b := fun b hb => by
      have hle : s1.heap.objs.size ≤ b := by
        rcases (show b = s1.heap.objs.size + 1 ∨ b = s1.heap.objs.size by simpa using hb) with z | z
        · rw [z]; exact Nat.le_add_right _ _
        · rw [z]; exact Nat.le_refl _
      exact I1.fpOk hle (I1.hok.fresh hle)
    rcases q1 with ⟨hq, q⟩ | ⟨hq, q⟩
    · obtain ⟨its, rv, p', hz⟩ := I1.list hq
      refine call_enumerate_list p'.isList fun h' he hit hsz hk => wpAny_pyIter_enum he ?_
      have I2 : Inv X pins σ H1 { s1 with heap := h' } := I1.kept (t' := s1.toks) hk
      exact ⟨s1.heap.objs.size + 1, [s1.heap.objs.size + 1, s1.heap.objs.size], _, _, H1, rfl, I2, turn_enum a _ _, ⟨⟨.none, he⟩, hit, Nat.succ_ne_self _⟩, new2, q⟩
    · obtain ⟨its, rv, p', hz⟩ := I1.tuple hq
      have la : a < s1.heap.objs.size := by obtain ⟨o, ho, _⟩ := id p'; exact Heap.lt_size ho
      refine call_enumT (show s1.heap.IsTuple a its.toArray from p') fun h' he hit hsz hk => wpAny_pyIter_enum he ?_
      have I2 : Inv X pins σ H1 { s1 with heap := h' } := I1.kept (t' := s1.toks) hk
      exact ⟨s1.heap.objs.size + 1, [s1.heap.objs.size + 1, s1.heap.objs.size], _, _, H1, rfl, I2, turn_enT a _ _, ⟨⟨.none, he⟩, hit, Nat.succ_ne_self _, Nat.ne_of_lt la, Nat.ne_of_lt (Nat.lt_succ_of_lt la)⟩, new2, q⟩) hs rfl))⟩
def enumD (ds : List PyData) : List PyData := zipD ((List.range ds.length).map fun i => .int ((i : Nat) : Int)) ds
theorem enumD_len (ds : List PyData) : (enumD ds).length = ds.length := by simp [enumD, zipD]
theorem enumD_at {ds : List PyData} {i : Nat} {d : PyData} (h : (enumD ds)[i]? = some d) : ∃ y, ds[i]? = some y ∧ d = .tuple [.int (i : Nat), y] := by
  obtain ⟨x, y, e1, e2, e3⟩ := zipD_at h
  rw [List.getElem?_map] at e1
  rcases e4 : (List.range ds.length)[i]? with _ | j
  · rw [e4] at e1; cases e1
  · rw [e4] at e1
    cases e1
    rw [List.getElem?_range (by have := (List.getElem?_eq_some_iff.mp e2).1; exact this)] at e4
    cases e4
    exact ⟨y, e2, e3⟩
def vEnum (t : TVs) : TVl := fun ρ Q => t ρ fun ss => ∃ s ds, ss = [s] ∧ (s = .v (.list ds) ∨ s = .v (.tuple ds) ∨ s = .own ds) ∧ Q (enumD ds)
section
variable {X : Cx} {K : PySem.W.Frag} {F1 : FS} {H1 : Hp}
theorem wk_enT {a : Addr} {xs : List V} {ds : List PyData} (h : SqT K H1 a xs) (r : RA K F1 H1 xs ds) : Wk true (IteT K a) K (enumD ds) F1 H1 where
  go := fun i F H m d hi => by
    have l1 := r.len
    rw [enumD_len] at hi
    exact ⟨xs, xs[i]'(by omega), m.sqt h, List.getElem?_eq_getElem (by omega)⟩
  yld := fun i F H x H' d m fo hd y => by
    obtain ⟨T, x1, rfl, hT, rfl, hx⟩ := y
    obtain ⟨dx, e1, rfl⟩ := enumD_at hd
    obtain ⟨v, q1, q2⟩ := r.get e1
    rw [hx xs (m.sqt h)] at q1
    cases q1
    have st : Stp (fun _ => False) F F H (upd H T (.tup [.int (i : Nat), x1])) := Stp.new hT
    have m2 := m.trans st.toFM
    exact ⟨F, rfl, st, fo.new hT, .inr ⟨rfl, _, _, _, rfl, rfl, SqT.of upd_same, (.cons (.int _) (.cons (Rp.mono m2 q2) .nil))⟩⟩
  stop := fun F H m _ => ⟨xs, m.sqt h, by rw [enumD_len, r.len]; exact Nat.le_refl _⟩
theorem wk_enL {a : Addr} {xs : List V} {ds : List PyData} (f : F1 a) (h : H1 a = some (.lst xs)) (r : RA K F1 H1 xs ds) : Wk true (Ite K a) K (enumD ds) F1 H1 where
  go := fun i F H m d hi => by
    have l1 := r.len
    rw [enumD_len] at hi
    exact ⟨xs, xs[i]'(by omega), SqL.of (m.fk _ _ f h), List.getElem?_eq_getElem (by omega)⟩
  yld := fun i F H x H' d m fo hd y => by
    obtain ⟨T, x1, rfl, hT, rfl, hx⟩ := y
    obtain ⟨dx, e1, rfl⟩ := enumD_at hd
    obtain ⟨v, q1, q2⟩ := r.get e1
    rw [hx xs (SqL.of (m.fk _ _ f h))] at q1
    cases q1
    have st : Stp (fun _ => False) F F H (upd H T (.tup [.int (i : Nat), x1])) := Stp.new hT
    have m2 := m.trans st.toFM
    exact ⟨F, rfl, st, fo.new hT, .inr ⟨rfl, _, _, _, rfl, rfl, SqT.of upd_same, (.cons (.int _) (.cons (Rp.mono m2 q2) .nil))⟩⟩
  stop := fun F H m _ => ⟨xs, SqL.of (m.fk _ _ f h), by rw [enumD_len, r.len]; exact Nat.le_refl _⟩
theorem vi_enum {κ1 : Nat} {tg l : Expr} {es : List Expr} {t : TVs} (hz : ∀ ta, PA X es ta → PI X tg l (iEnumA X.K ta)) (h : VA X es t κ1) : VI true X tg l (vEnum t) κ1 := by
  obtain ⟨ta, pa, g⟩ := h
  refine ⟨_, hz ta pa, fun B F H σ ρ Q R er bq t k => ?_⟩
  refine g B F H σ ρ _ _ er (by omega) t fun ss us F1 H1 cq ⟨s, ds, e, hs, q⟩ x al => ?_
  subst e
  match us, al with
  | [u], ⟨r1, o1, _⟩ =>
    rcases hs with rfl | rfl | rfl
    · cases (show R1 X.K F1 H1 u _ from r1) with
      | lst f1 h1 q1 => exact ⟨_, _, rfl, .inl ⟨SqL.of h1, k _ _ F1 H1 (by omega) q x (wk_enL f1 h1 q1)⟩⟩
    · cases (show R1 X.K F1 H1 u _ from r1) with
      | tup h1 q1 => exact ⟨_, _, rfl, .inr ⟨h1.t, k _ _ F1 H1 (by omega) q x (wk_enT h1.t q1)⟩⟩
    · obtain ⟨F2, ce, x2, _⟩ := (⟨x, r1, o1⟩ : Res X.K ρ F H F1 H1 (.own ds) u).hand (t := .v (.list ds)) rfl
      cases (show R1 X.K F2 H1 u (.list ds) from x2.sr) with
      | lst f1 h1 q1 => exact ⟨_, _, rfl, .inl ⟨SqL.of h1, k _ _ F2 H1 (by omega) q x2.toExt (wk_enL f1 h1 q1)⟩⟩
end

/-! ### sorted(d) -/
section
variable {X : Cx} {K : PySem.W.Frag}
theorem keys_read {h : Heap} : ∀ {k : List L2.Key} {us : List Value}, Vals (k.map kV) us → ReadsAll h us (k.map kD) []
  | [], _, .nil => .nil
  | .inl i :: k, _, .cons ⟨t, e⟩ r => by subst e; exact .cons (as := []) (bs := []) (.int i t) (keys_read r)
  | .inr x :: k, _, .cons ⟨t, e⟩ r => by subst e; exact .cons (as := []) (bs := []) (.str x t) (keys_read r)
/-- of a dict by tuples: its keys, sorted -/
def rSortDT : List V → Hp → L2.VK → Prop := fun vs H Q => ∃ (a : Addr) (kvs : List (List L2.Key × V)), vs = [.ref a] ∧ Rd H a (.dT kvs) ∧ PySem.W.AllAlike (kvs.map fun kv => kDs kv.1) ∧ PySem.W.Sortable (kvs.map fun kv => kDs kv.1) ∧
  ∀ (bs : List Addr) p, PySem.W.EachIs (fun b d => ∃ k : List L2.Key, d = kDs k ∧ H b = some (.tup (k.map kV))) bs (Srts (kvs.map fun kv => kDs kv.1)) → H p = none → Q (.ref p) (upd H p (.lst (bs.map V.ref)))
theorem cr_sortDT {k : Nat} (hc : X.calm = true) (hr : Room k X.A) : CallR X (.builtin "sorted") rSortDT := by
  intro pins s σ H xs us Q I r h
  obtain ⟨a, kvs, rfl, hd, al, so, q⟩ := h
  obtain ⟨u, rfl, rx⟩ := vals1 r
  obtain rfl : u = Value.ref a := rx
  obtain ⟨z, hs, ks, pr, o, es, ep, ho, hx, hdt, he, hn⟩ := (show ObjOk X.prog X.w H s.heap a (.dT kvs) from hd.ok I.hok)
  have l1 : es.size = ks.length := size_of_entries he
  have l2 : kvs.length = ks.length := Paired.length pr
  have zl : sizeLine = 16777216 := rfl
  refine Calls.call_function_entry PyProof.Rows.kind_sorted PyProof.Rows.plain_sorted PyProof.Rows.entry_sorted (PyProof.Rows.args_sorted1 _) ?_
  unfold Builtin.«sorted»
  refine wpAny_bind (m := checkCount "sorted" 1 1 _) (wpAny_pure ?_)
  refine wpAny_bind (PySem.W.kdu_collect (A := X.A.in1) (kdl_raw hs hx hdt) (I.ok.hd hc) ho (by omega) fun h' tk acc hk it => ?_)
  have ea : acc.toList = ks.map fun x => Value.ref x.2.1 := by
    have hl : acc.toList.length = ks.length := by rw [Array.length_toList, it.1]; exact l1
    refine List.ext_getElem? fun j => ?_
    rw [List.getElem?_map]
    rcases hj : acc.toList[j]? with _ | v
    · have h1 := List.getElem?_eq_none_iff.mp hj
      rw [List.getElem?_eq_none (by omega)]; rfl
    · obtain ⟨en, hen, hv⟩ := it.2 j v (by rw [← Array.getElem?_toList]; exact hj)
      have qe := entry_at he j
      rw [hen] at qe
      rcases hb : ks[j]? with _ | b
      · rw [hb] at qe; cases qe
      · rw [hb] at qe
        rw [hv, Option.some.inj qe]; rfl
  have I1 : Inv X pins σ H { s with heap := h', toks := tk } := I.kept hk
  have hal : acc.toList.length = ks.length := by rw [ea, List.length_map]
  refine wpAny_bind (wpAny_newList ?_ (by omega))
  have hoL : (h'.push (seqObj "list" acc.toList.toArray 0)).get? h'.objs.size = some (seqObj "list" acc.toList.toArray 0) := Heap.get?_push_size _ rfl
  show wpAny _ _ _ _ _ { s with heap := h'.push (seqObj "list" acc.toList.toArray 0), toks := tk }
  have keep : ∀ b ob, h'.get? b = some ob → (h'.push (seqObj "list" acc.toList.toArray 0)).get? b = some ob := fun b ob e => Heap.get?_push_of_some _ e
  have ent : ∀ {l : List (List L2.Key × V)} {m : List (List L2.Key × Addr × Value)}, KT H l m →
      PySem.W.EachIs (fun v d => ∃ (b : Addr) (k : List L2.Key), v = Value.ref b ∧ d = kDs k ∧ H b = some (.tup (k.map kV))) (m.map fun x => Value.ref x.2.1) (l.map fun kv => kDs kv.1) := by
    intro l m hp
    induction hp with
    | nil => exact .nil
    | cons h1 _ ih => exact .cons ⟨_, _, rfl, rfl, h1.2.1⟩ ih
  have e1 := ent pr
  rw [← ea] at e1
  have er : PySem.W.EachIs (fun v d => ∃ as, Reads (h'.push (seqObj "list" acc.toList.toArray 0)) v (id d) as ∧ h'.objs.size ∉ as) acc.toList (kvs.map fun kv => kDs kv.1) := e1.mono fun v d hv => by
    obtain ⟨b, k, rfl, rfl, hb⟩ := hv
    obtain ⟨_, its, rv, ob, h1, h2, n, h3⟩ := (show ObjOk X.prog X.w H h' b (.tup (k.map kV)) from I1.hok b _ hb)
    exact ⟨[], .tuple (keep _ _ h1) h2 h3 (by simpa using keys_read rv), by simp⟩
  have hu := hu64 hr
  refine wpAny_bind (wpAny_holding (PySem.W.list_sort_data (enc := id) (s := { s with heap := h'.push (seqObj "list" acc.toList.toArray 0), toks := tk }) hoL e1 er (by rw [List.map_id]; exact al) (by rw [List.map_id]; exact so) (by rw [List.length_map]; omega) (fun d hd => ?_) fun out hl eo => ?_))
  · obtain ⟨kv, _, rfl⟩ := List.mem_map.mp hd
    have : PyData.depth (kDs kv.1) ≤ 2 := by
      have : ∀ k : List L2.Key, PyData.depthAll (k.map kD) ≤ 1 := by
        intro k
        induction k with
        | nil => simp [PyData.depthAll]
        | cons a k ih => cases a <;> simp [PyData.depthAll, PyData.depth, kD] <;> omega
      have := this kv.1
      simp [kDs, PyData.depth]; omega
    show X.A.in1.units + 1 + (kDs kv.1).depth < cLine
    have e : X.A.in1.units = X.A.units + 1 := rfl
    omega
  · obtain ⟨n', hn'⟩ := PyProof.Rows.sortedHeap_at (vs := acc.toList) (out := List.toArray out) hoL
    have refs : ∀ {vs : List Value} {ds : List PyData}, PySem.W.EachIs (fun v d => ∃ (b : Addr) (k : List L2.Key), v = Value.ref b ∧ d = kDs k ∧ H b = some (.tup (k.map kV))) vs ds →
        ∃ bs : List Addr, vs = bs.map Value.ref ∧ PySem.W.EachIs (fun b d => ∃ k : List L2.Key, d = kDs k ∧ H b = some (.tup (k.map kV))) bs ds := by
      intro vs ds h
      induction h with
      | nil => exact ⟨[], rfl, .nil⟩
      | cons h1 _ ih =>
        obtain ⟨b, k, rfl, rfl, hb⟩ := h1
        obtain ⟨bs, rfl, e⟩ := ih
        exact ⟨b :: bs, rfl, .cons ⟨k, rfl, hb⟩ e⟩
    obtain ⟨bs, rfl, eb⟩ := refs eo
    have lb : bs.length = kvs.length := by simpa using hl
    have I2 : Inv X pins σ (upd H h'.objs.size (.lst (bs.map V.ref))) _ := I1.laid (t' := tk) (h' := PyProof.Rows.sortedHeap (h'.push (seqObj "list" acc.toList.toArray 0)) h'.objs.size acc.toList (List.toArray (bs.map Value.ref))) (o := .lst (bs.map V.ref)) (fun b u e => by
      have hb : b < h'.objs.size := Heap.lt_size e
      rw [PyProof.Rows.sortedHeap_old (Nat.ne_of_lt hb) (by rw [Heap.size_push]; exact Nat.lt_succ_of_lt hb)]
      exact keep _ _ e) (Nat.le_refl _) ⟨by rw [List.length_map]; omega, bs.map Value.ref, n', vals_refs bs, hn'⟩
    exact wpAny_pure ⟨_, rfl, .ref h'.objs.size, _, I2, rfl, q bs _ eb (I1.hok.fresh (Nat.le_refl _))⟩
/-- sorted(d): tuples for keys; numbers for keys -/
def fSortDT : FC := fun ss Q => ∃ s kvs, ss = [s] ∧ DicT s kvs ∧ PySem.W.AllAlike (kvs.map fun kv => kDs kv.1) ∧ PySem.W.Sortable (kvs.map fun kv => kDs kv.1) ∧ Q (.own (Srts (kvs.map fun kv => kDs kv.1)))
abbrev rSortDI : List V → Hp → L2.VK → Prop := fun xs H Q => ∃ (a : Addr) (kvs : List (L2.Key × V)) (ks : List Int), xs = [.ref a] ∧ Rd H a (.dK kvs) ∧ kvs.map (·.1) = ks.map Sum.inl ∧ ks.length < 64 ∧
    ∀ (ys : List Int) (p : Addr), ys.Perm ks → ys.Pairwise (· ≤ ·) → H p = none → Q (.ref p) (upd H p (.lst (ys.map V.int)))
def fSortDI : FC := fun ss Q => ∃ s kvs ks, ss = [s] ∧ DicK s kvs ∧ kvs.map (·.1) = ks.map Sum.inl ∧ ks.length < 64 ∧ ∀ ys : List Int, ys.Perm ks → ys.Pairwise (· ≤ ·) → Q (.own (ys.map .int))
theorem cs_sortDI : CallS K rSortDI fSortDI := by
  intro F H us ss Q R fo al ⟨s, kvs, ks, e, dt, e1, h64, q⟩ k
  subst e
  obtain ⟨u, rfl, h⟩ := ah1 al
  obtain ⟨p, ws, rfl, hp, em, r⟩ := dicK_at h dt
  exact ⟨p, ws, ks, rfl, hp, by rw [em, e1], h64, fun ys l pm so hl => k _ _ _ _ (q ys pm so) (fun _ _ z => nomatch z) (.newL fo hl (RA.ints ys))⟩
def fSortDS : FC := fun ss Q => ∃ s kvs ks, ss = [s] ∧ DicK s kvs ∧ kvs.map (·.1) = ks.map Sum.inr ∧ ks.length < 64 ∧ ∀ ys : List Str, ys.Perm ks → sortedS ys = true → Q (.own (ys.map .str))
theorem cs_sortDS : CallS K rSortedD fSortDS := by
  intro F H us ss Q R fo al ⟨s, kvs, ks, e, dt, e1, h64, q⟩ k
  subst e
  obtain ⟨u, rfl, h⟩ := ah1 al
  obtain ⟨p, ws, rfl, hp, em, r⟩ := dicK_at h dt
  exact ⟨p, ws, ks, rfl, hp, by rw [em, e1], h64, fun ys l pm so hl => k _ _ _ _ (q ys pm so) (fun _ _ z => nomatch z) (.newL fo hl (RA.strs ys))⟩
end
end VL
namespace VL
open PySem PySem.Spec PyProof.Rows L2 VG

/-! ### x in xs, whatever data -/
abbrev rInD (K : PySem.W.Frag) (neg : Bool) : R2 := fun x y H Q => ∃ d ds, Dp K H x d ∧ (Dp K H y (.list ds) ∨ Dp K H y (.tuple ds)) ∧ d.canLay0 = true ∧ d.depth ≤ 60 ∧ PyData.canLayAll0 ds = true ∧ Q (.bl (if neg then !ds.any (PyData.eqv · d) else ds.any (PyData.eqv · d))) H
section
variable {X : Cx}
theorem inD_room {A : Around} {ds : List PyData} {d : PyData} (h : A.units + 64 < cLine) (hd : d.depth ≤ 60) : A.units + 1 + min (PyData.depthAll ds) d.depth < cLine := by
  have := Nat.min_le_right (PyData.depthAll ds) d.depth
  omega
theorem op_inD {k : Nat} (hr : Room k X.A) : OpR X (compareOp .In) (rInD X.K false) := by
  intro pins s σ H x y v u Q I rx ry h
  obtain ⟨d, ds, dx, dy, c1, c2, c3, q⟩ := h
  obtain ⟨as, ra⟩ := Dp.reads I d x v dx rx
  have hu := inD_room (ds := ds) (hu64 hr) c2
  rcases dy with dy | dy
  · obtain ⟨bs, rb⟩ := Dp.reads I _ y u dy ry
    exact SeqAt.in_list_reads rb ra c3 c1 hu ⟨.bl _, H, I, rfl, q⟩
  · obtain ⟨bs, rb⟩ := Dp.reads I _ y u dy ry
    exact SeqAt.in_tuple_reads rb ra c3 c1 hu ⟨.bl _, H, I, rfl, q⟩
theorem op_notInD {k : Nat} (hr : Room k X.A) : OpR X (compareOp .NotIn) (rInD X.K true) := by
  intro pins s σ H x y v u Q I rx ry h
  obtain ⟨d, ds, dx, dy, c1, c2, c3, q⟩ := h
  obtain ⟨as, ra⟩ := Dp.reads I d x v dx rx
  have hu := inD_room (ds := ds) (hu64 hr) c2
  rcases dy with dy | dy
  · obtain ⟨bs, rb⟩ := Dp.reads I _ y u dy ry
    exact SeqAt.notIn_list_reads rb ra c3 c1 hu ⟨.bl _, H, I, rfl, q⟩
  · obtain ⟨bs, rb⟩ := Dp.reads I _ y u dy ry
    exact SeqAt.notIn_tuple_reads rb ra c3 c1 hu ⟨.bl _, H, I, rfl, q⟩
end
abbrev rInS (neg : Bool) : R2 := fun x y H Q => ∃ (c : Nat) (z : Str), x = .str ⟨#[c]⟩ ∧ y = .str z ∧ Q (.bl (if neg then !decide (c ∈ z.cps.toList) else decide (c ∈ z.cps.toList))) H
def fInD (neg : Bool) : FB := fun a b Q => (∃ (c : Nat) (z : Str), a = .v (.str ⟨#[c]⟩) ∧ b = .v (.str z) ∧ Q (.v (.bool (if neg then !decide (c ∈ z.cps.toList) else decide (c ∈ z.cps.toList))))) ∨
  ∃ d ds, a.asD = some d ∧ b.asQ = some ds ∧ d.canLay0 = true ∧ d.depth ≤ 60 ∧ PyData.canLayAll0 ds = true ∧ Q (.v (.bool (if neg then !ds.any (PyData.eqv · d) else ds.any (PyData.eqv · d))))
theorem layAll_nd : ∀ {ds : List PyData}, PyData.canLayAll0 ds = true → PyData.hasDictAll ds = false
  | [], _ => rfl
  | d :: ds, h => by
    simp only [PyData.canLayAll0, Bool.and_eq_true] at h
    simp [PyData.hasDictAll, PyData.hasDict_of_canLay d h.1, layAll_nd h.2]
theorem ops_inD {K : PySem.W.Frag} {neg : Bool} : OpS K (r2or (rInS neg) (rInD K neg)) (fInD neg) := by
  intro F H u w a b Q R fo ra rb q k
  rcases q with ⟨c, z, e1, e2, q⟩ | ⟨d, ds, e1, e2, f1, f2, f3, q⟩
  · subst e1 e2
    rw [str_of ra, str_of rb]
    exact .inl ⟨c, z, rfl, rfl, k _ _ F H q (fun _ _ z => nomatch z) (.same fo (.bl _))⟩
  · have dx := asD_dp ra e1 (PyData.hasDict_of_canLay d f1)
    obtain ⟨p, xs, rfl, sq, r⟩ := asQ_sq rb e2
    refine .inr ⟨d, ds, dx, ?_, f1, f2, f3, k _ _ F H q (fun _ _ z => nomatch z) (.same fo (.bl _))⟩
    rcases sq with sq | sq
    · exact .inl (.lst sq (RA.dp r (layAll_nd f3)))
    · exact .inr (.tup sq.t (RA.dp r (layAll_nd f3)))
/-- dict(pairs), new -/
def fDictO : FC := fun ss Q => ∃ (s : SV) (kvs : List (L2.Key × PyData)), ss = [s] ∧ s.asQ = some (kvs.map fun kv => .tuple [kD kv.1, kv.2]) ∧ (kvs.map (·.1)).Nodup ∧ Q (odK kvs)
theorem cs_dictO {K : PySem.W.Frag} : CallS K (rDictQ K) fDictO := by
  intro F H us ss Q R fo al ⟨s, kvs, e, e1, nd, q⟩ k
  subst e
  obtain ⟨u, rfl, h⟩ := ah1 al
  obtain ⟨a, xs, rfl, sq, r⟩ := asQ_sq h e1
  obtain ⟨ps, ws, ex, pr, ek, rr⟩ := pairs_of r
  subst ex
  have em : mergeK [] ws = ws := mergeK_nodup ws [] (by rw [List.nil_append, ek]; exact nd)
  refine ⟨a, ps, ws, rfl, sq, pr, fun p hp => ?_⟩
  rw [em]
  have e1 : (CT.K (kvs.map (·.1))).ho (ws.map (·.2)) = .dK ws := by show HO.dK _ = _; rw [← ek, zipV_back rfl rfl]
  have := PRes.newC (c := .K (kvs.map (·.1))) fo hp rr
  rw [e1] at this
  exact k _ _ _ _ q (fun _ _ z => nomatch z) this
/-- never reached -/
def vNever : TVS := fun _ _ => False
theorem vs_never {X : Cx} {st : Stmt} : VS X st vNever 0 := ⟨_, ps_never, fun _ _ _ _ _ _ _ _ _ t _ => t.elim⟩
theorem s_never {E : VEnds} {ρ : VL.Env} : vNever E ρ = False := (Eq.refl _).trans (Eq.refl _)
section
variable {kvs : List (L2.Key × PyData)} {tvs : List (List L2.Key × PyData)} {ds : List PyData} {d : PyData} {ss : List SV} {P : SV → Prop} {Q : SV → Prop} {ρ : VL.Env} {E : VEnds} {i : Nat} {te td ty tx tk tv t : TV} {ts : TVs} {T : TVS}
def asgO (s : SV) (P : SV → Prop) : Prop := match s with | .ow c ds => P (.ow c ds) | _ => False
theorem s_asgO2 : vAsgO i te E ρ = te ρ fun s => asgO s fun z => E.nx (ρ.set i z) := by
  unfold vAsgO
  congr 1
theorem asgO_own : asgO (.own ds) P = P (.own ds) := (Eq.refl _).trans (Eq.refl _)
theorem asgO_odK : asgO (odK kvs) P = P (odK kvs) := (Eq.refl _).trans (Eq.refl _)
theorem asgO_odT : asgO (odT tvs) P = P (odT tvs) := (Eq.refl _).trans (Eq.refl _)
def frzO (o : Option SV) (P : SV → Prop) : Prop := ∃ c ds, o = some (.ow c ds) ∧ P (c.fro ds)
theorem s_frz2 : vFrz i T E ρ = frzO (ρ[i]?) fun z => T E (ρ.set i z) := (Eq.refl _).trans (Eq.refl _)
theorem frz_own : frzO (some (.own ds)) P = P (.v (.list ds)) := propext ⟨fun ⟨c, es, e, h⟩ => by injection e with e; injection e with e1 e2; subst e1 e2; exact h, fun h => ⟨.lst, ds, rfl, h⟩⟩
theorem frz_odK : frzO (some (odK kvs)) P = P (.v (dKD kvs)) := propext ⟨fun ⟨c, es, e, h⟩ => by
    injection e with e; injection e with e1 e2; subst e1 e2
    have : CT.fro (.K (kvs.map (·.1))) (kvs.map (·.2)) = .v (dKD kvs) := by show SV.v (.dict _) = _; rw [zipD_back]; rfl
    rw [← this]; exact h, fun h => ⟨.K (kvs.map (·.1)), kvs.map (·.2), rfl, by show P (SV.v (.dict _)); rw [zipD_back]; exact h⟩⟩
theorem frz_odT : frzO (some (odT tvs)) P = P (fzT tvs) := propext ⟨fun ⟨c, es, e, h⟩ => by injection e with e; injection e with e1 e2; subst e1 e2; exact h, fun h => by
    refine ⟨_, _, rfl, ?_⟩
    exact h⟩
theorem hand_odK : SV.hand (odK kvs) = some (.v (dKD kvs)) := by show some (SV.v (.dict _)) = _; rw [zipD_back]; rfl
theorem hand_odT : SV.hand (odT tvs) = some (fzT tvs) := (Eq.refl _).trans (Eq.refl _)
theorem hand_fzT : SV.hand (fzT tvs) = some (fzT tvs) := (Eq.refl _).trans (Eq.refl _)
theorem lend_odK : SV.lend (odK kvs) = bdK kvs := (Eq.refl _).trans (Eq.refl _)
theorem lend_odT : SV.lend (odT tvs) = bdT tvs := (Eq.refl _).trans (Eq.refl _)
theorem lend_fzT : SV.lend (fzT tvs) = fzT tvs := (Eq.refl _).trans (Eq.refl _)
theorem hands_odK : hands (odK kvs :: ss) = (hands ss).map (SV.v (dKD kvs) :: ·) := by
  show (match SV.hand (odK kvs), hands ss with | some t, some ts => some (t :: ts) | _, _ => none) = _
  rw [hand_odK]
  rcases hands ss <;> rfl
theorem hands_odT : hands (odT tvs :: ss) = (hands ss).map (fzT tvs :: ·) := by
  show (match SV.hand (odT tvs), hands ss with | some t, some ts => some (t :: ts) | _, _ => none) = _
  rw [hand_odT]
  rcases hands ss <;> rfl
theorem hands_fzT : hands (fzT tvs :: ss) = (hands ss).map (fzT tvs :: ·) := by
  show (match SV.hand (fzT tvs), hands ss with | some t, some ts => some (t :: ts) | _, _ => none) = _
  rw [hand_fzT]
  rcases hands ss <;> rfl
theorem taps_odK : TapsOld ρ (odK kvs :: ss) = TapsOld ρ ss := propext ⟨fun h => h.2, fun h => ⟨trivial, h⟩⟩
theorem taps_odT : TapsOld ρ (odT tvs :: ss) = TapsOld ρ ss := propext ⟨fun h => h.2, fun h => ⟨trivial, h⟩⟩
theorem taps_fzT : TapsOld ρ (fzT tvs :: ss) = TapsOld ρ ss := propext ⟨fun h => h.2, fun h => ⟨trivial, h⟩⟩
theorem datasIn_odK : datasIn (odK kvs :: ss) = (datasIn ss).map (dKD kvs :: ·) := by
  unfold datasIn
  rw [hands_odK]
  rcases hands ss with _ | ts
  · rfl
  · show datas (SV.v (dKD kvs) :: ts) = _
    rfl
theorem m_dnewK : vDNewK ρ Q = Q (odK []) := (Eq.refl _).trans (Eq.refl _)
theorem m_dnewT : vDNewT ρ Q = Q (odT []) := (Eq.refl _).trans (Eq.refl _)
theorem odK_ex {P : List (L2.Key × PyData) → Prop} : (∃ l, some (odK kvs) = some (odK l) ∧ P l) ↔ P kvs :=
  ⟨fun ⟨l, e, h⟩ => by injection e with e; injection e with e1 e2; injection e1 with e1; rw [pair_inj e1 e2]; exact h, fun h => ⟨kvs, rfl, h⟩⟩
theorem odT_ex {P : List (List L2.Key × PyData) → Prop} : (∃ l, some (odT tvs) = some (odT l) ∧ P l) ↔ P tvs :=
  ⟨fun ⟨l, e, h⟩ => by injection e with e; injection e with e1 e2; injection e1 with e1; rw [pair_inj e1 e2]; exact h, fun h => ⟨tvs, rfl, h⟩⟩
theorem s_putK : vPutK i tk tv E ρ = ∃ kvs, ρ[i]? = some (odK kvs) ∧ tv ρ fun z => ∃ dv, datasIn [z] = some [dv] ∧ tk ρ fun s => ∃ d k, s = .v d ∧ keyOf d = some k ∧ kvs.length < 100000 ∧ E.nx (ρ.set i (odK (gPut kvs k dv))) := (Eq.refl _).trans (Eq.refl _)
theorem s_putT : vPutT i ts tv E ρ = ∃ kvs, ρ[i]? = some (odT kvs) ∧ tv ρ fun z => ∃ dv, datasIn [z] = some [dv] ∧ ts ρ fun ss => ∃ k, datasIn ss = some (k.map kD) ∧ k.length ≤ 100000 ∧ kvs.length < 100000 ∧ E.nx (ρ.set i (odT (gPut kvs k dv))) := (Eq.refl _).trans (Eq.refl _)
theorem keyI_ex {n : Int} {P : L2.Key → Prop} : (∃ d k, SV.v (.int n) = .v d ∧ keyOf d = some k ∧ P k) ↔ P (.inl n) :=
  ⟨fun ⟨d, k, e, e2, h⟩ => by injection e with e; subst e; cases e2; exact h, fun h => ⟨_, _, rfl, rfl, h⟩⟩
theorem keyS_ex {x : Str} {P : L2.Key → Prop} : (∃ d k, SV.v (.str x) = .v d ∧ keyOf d = some k ∧ P k) ↔ P (.inr x) :=
  ⟨fun ⟨d, k, e, e2, h⟩ => by injection e with e; subst e; cases e2; exact h, fun h => ⟨_, _, rfl, rfl, h⟩⟩
theorem m_get1 : vGet1 td ty ρ Q = td ρ fun a => ((∃ kvs, DicK a kvs) ∨ ∃ kvs, DicT a kvs) ∧ ty ρ fun b => Lk a b fun o => Q (.v (o.getD .none)) := (Eq.refl _).trans (Eq.refl _)
theorem m_get2 : vGet2 td ty tx ρ Q = td ρ fun a => ((∃ kvs, DicK a kvs) ∨ ∃ kvs, DicT a kvs) ∧ ty ρ fun b => tx ρ fun z => ∃ d0, z = .v d0 ∧ Lk a b fun o => Q (.v (o.getD d0)) := (Eq.refl _).trans (Eq.refl _)
theorem isd_bdK : ((∃ l, DicK (bdK kvs) l) ∨ ∃ l, DicT (bdK kvs) l) = True := propext ⟨fun _ => trivial, fun _ => .inl ⟨_, .inr (.inl rfl)⟩⟩
theorem isd_odK : ((∃ l, DicK (odK kvs) l) ∨ ∃ l, DicT (odK kvs) l) = True := propext ⟨fun _ => trivial, fun _ => .inl ⟨_, .inl rfl⟩⟩
theorem isd_dKD : ((∃ l, DicK (.v (dKD kvs)) l) ∨ ∃ l, DicT (.v (dKD kvs)) l) = True := propext ⟨fun _ => trivial, fun _ => .inl ⟨_, .inr (.inr (.inl rfl))⟩⟩
theorem isd_dct : ((∃ l, DicK (.dct kvs) l) ∨ ∃ l, DicT (.dct kvs) l) = True := propext ⟨fun _ => trivial, fun _ => .inl ⟨_, .inr (.inr (.inr rfl))⟩⟩
theorem isd_bdT : ((∃ l, DicK (bdT tvs) l) ∨ ∃ l, DicT (bdT tvs) l) = True := propext ⟨fun _ => trivial, fun _ => .inr ⟨_, .inr (.inl rfl)⟩⟩
theorem isd_odT : ((∃ l, DicK (odT tvs) l) ∨ ∃ l, DicT (odT tvs) l) = True := propext ⟨fun _ => trivial, fun _ => .inr ⟨_, .inl rfl⟩⟩
theorem isd_fzT : ((∃ l, DicK (fzT tvs) l) ∨ ∃ l, DicT (fzT tvs) l) = True := propext ⟨fun _ => trivial, fun _ => .inr ⟨_, .inr (.inr rfl)⟩⟩
theorem lk_K {s : SV} {k : L2.Key} {P : Option PyData → Prop} (h : DicK s kvs) (hk : keyOf d = some k) (p : P (gFind kvs k)) : Lk s (.v d) P := .inl ⟨kvs, d, k, h, rfl, hk, p⟩
theorem lk_T {s : SV} {k : List L2.Key} {P : Option PyData → Prop} (h : DicT s tvs) (p : P (gFind tvs k)) : Lk s (.v (kDs k)) P := .inr ⟨tvs, k, h, rfl, p⟩
theorem m_gitem {a b : SV} : fGItem a b Q = Lk a b fun o => ∃ d, o = some d ∧ Q (.v d) := (Eq.refl _).trans (Eq.refl _)
theorem m_gin {a b : SV} {neg : Bool} : fGIn neg b a Q = Lk a b fun o => Q (.v (.bool (if neg then !o.isSome else o.isSome))) := (Eq.refl _).trans (Eq.refl _)
theorem s_aug {f : Int → Int → Int} : vAug i f te E ρ = ∃ a, ρ[i]? = some (.v (.int a)) ∧ te ρ fun s => isI s fun b => E.nx (ρ.set i (.v (.int (f a b)))) := (Eq.refl _).trans (Eq.refl _)
theorem vint_ex {n : Int} {P : Int → Prop} : (∃ a, some (SV.v (.int n)) = some (.v (.int a)) ∧ P a) ↔ P n :=
  ⟨fun ⟨a, e, h⟩ => by injection e with e; injection e with e; injection e with e; rw [e]; exact h, fun h => ⟨n, rfl, h⟩⟩
theorem m_fIsB {neg x y : Bool} : fIsB neg (.v (.bool x)) (.v (.bool y)) Q = Q (.v (.bool (if neg then !(x == y) else (x == y)))) := propext ⟨fun ⟨a, b, e1, e2, h⟩ => by injection e1 with e1; injection e1 with e1; injection e2 with e2; injection e2 with e2; subst e1 e2; exact h, fun h => ⟨x, y, rfl, rfl, h⟩⟩
theorem m_isi2 {S U : String} : vIsi2 S U te ρ Q = te ρ fun s => ∃ d, s.asD = some d ∧ Q (.v (.bool (isT S d || isT U d))) := (Eq.refl _).trans (Eq.refl _)
theorem m_enum {R : List PyData → Prop} : vEnum ts ρ R = ts ρ fun ss => ∃ s ds, ss = [s] ∧ (s = .v (.list ds) ∨ s = .v (.tuple ds) ∨ s = .own ds) ∧ R (enumD ds) := (Eq.refl _).trans (Eq.refl _)
theorem enT_ex {R : List PyData → Prop} : (∃ s es, [SV.v (.tuple ds)] = [s] ∧ (s = .v (.list es) ∨ s = .v (.tuple es) ∨ s = .own es) ∧ R es) ↔ R ds := by
  refine ⟨fun ⟨s, es, e, h, r⟩ => ?_, fun h => ⟨_, ds, rfl, .inr (.inl rfl), h⟩⟩
  injection e with e
  subst e
  rcases h with h | h | h
  · injection h with h; cases h
  · injection h with h; injection h with h; rw [h]; exact r
  · cases h
theorem enL_ex {R : List PyData → Prop} : (∃ s es, [SV.v (.list ds)] = [s] ∧ (s = .v (.list es) ∨ s = .v (.tuple es) ∨ s = .own es) ∧ R es) ↔ R ds := by
  refine ⟨fun ⟨s, es, e, h, r⟩ => ?_, fun h => ⟨_, ds, rfl, .inl rfl, h⟩⟩
  injection e with e
  subst e
  rcases h with h | h | h
  · injection h with h; injection h with h; rw [h]; exact r
  · injection h with h; cases h
  · cases h
theorem s_parN {is : List Nat} : vParN is ts E ρ = ts ρ fun ss => keeps ss = true ∧ ss.length = is.length ∧ ss.length ≤ 1000 ∧ E.nx (setAll ρ is ss) := (Eq.refl _).trans (Eq.refl _)
theorem keeps_nil : (keeps [] = true) = True := propext ⟨fun _ => trivial, fun _ => rfl⟩
theorem keeps_v : keeps (.v d :: ss) = keeps ss := (Eq.refl _).trans (Eq.refl _)
theorem keeps_own : keeps (.own ds :: ss) = keeps ss := (Eq.refl _).trans (Eq.refl _)
theorem keeps_odK : keeps (odK kvs :: ss) = keeps ss := (Eq.refl _).trans (Eq.refl _)
theorem keeps_odT : keeps (odT tvs :: ss) = keeps ss := (Eq.refl _).trans (Eq.refl _)
theorem keeps_fzT : keeps (fzT tvs :: ss) = keeps ss := (Eq.refl _).trans (Eq.refl _)
theorem keeps_dct : keeps (.dct kvs :: ss) = keeps ss := (Eq.refl _).trans (Eq.refl _)
theorem setAll_nil {ρ : VL.Env} : setAll ρ [] [] = ρ := (Eq.refl _).trans (Eq.refl _)
theorem setAll_cons {ρ : VL.Env} {is : List Nat} {s : SV} : setAll ρ (i :: is) (s :: ss) = setAll (ρ.set i s) is ss := (Eq.refl _).trans (Eq.refl _)
theorem m_dictO : fDictO ss Q = ∃ (s : SV) (kvs : List (L2.Key × PyData)), ss = [s] ∧ s.asQ = some (kvs.map fun kv => .tuple [kD kv.1, kv.2]) ∧ (kvs.map (·.1)).Nodup ∧ Q (odK kvs) := (Eq.refl _).trans (Eq.refl _)
end
/-! ### three names at once -/
section
variable {X : Cx}
theorem len3 {α : Type} : ∀ {l : List α}, l.length = 3 → ∃ a b c, l = [a, b, c]
  | [a, b, c], _ => ⟨a, b, c, rfl⟩
theorem vs_par3 {κ : Nat} {i j k : Nat} {st : Stmt} {es : List Expr} {t : TVs} (h : ∀ ta, PA X es ta → PS X st (tPar3 i j k ta)) (ha : VD X es t κ) : VS X st (vParN [i, j, k] t) κ := by
  obtain ⟨ta, pa, g⟩ := ha
  refine ⟨_, h ta pa, fun B F H σ ρ E D er bq t k => ?_⟩
  refine g B F H σ ρ _ _ er (by omega) t fun ss us F' H' cq ⟨kp, hl, hz, q⟩ x al od => ?_
  have lu := al.len
  have er' := er.step x
  have old : ∀ q, H q = none → B.H0 q = none := fun q z => by
    by_cases w : B.H0 q = none
    · exact w
    · exact absurd z (er.bs.ex q w)
  have hl : ss.length = 3 := hl
  obtain ⟨s, z, y, rfl⟩ := len3 hl
  obtain ⟨u, w, v, rfl⟩ := len3 (l := us) (by first | exact lu | exact lu.symm | (rw [lu]; rfl))
  exact ⟨u, w, v, rfl, k.nx F' H' _ _ (by omega) (par_go [_, _, _] [u, w, v] [s, z, y] σ ρ er' (pend_of er' old er er.refl.cp al) od kp) q⟩
end
/-! ### len of a dict -/
def fLenD : FC := fun ss Q => ∃ s kvs, ss = [s] ∧ DicK s kvs ∧ (∀ l, s ≠ .dct l) ∧ Q (.v (.int kvs.length))
theorem cs_lenD {K : PySem.W.Frag} : CallS K (fun xs H Q => ∃ a kvs, xs = [V.ref a] ∧ H a = some (.dK kvs) ∧ Q (.int kvs.length) H) fLenD := by
  intro F H us ss Q R fo al ⟨s, kvs, e, dt, nd, q⟩ k
  subst e
  obtain ⟨u, rfl, h⟩ := ah1 al
  obtain ⟨p, ws, rfl, hp, em, r⟩ := dicK_at0 h dt nd
  refine ⟨p, ws, rfl, hp, ?_⟩
  rw [show ws.length = kvs.length by simpa using congrArg List.length em]
  exact k _ _ F H q (fun _ _ z => nomatch z) (.same fo (.int _))
end VL
namespace VL
open PySem PySem.Spec PyProof.Rows L2 VG

/-! ### keywords of which some are left out -/
section
variable {K : PySem.W.Frag} {x qual : Str} {pr : Arguments} {body : List Stmt} {sc : Scope} {kws : List (Str × V)} {f : Addr} {fd : FuncData} {ps : List Str}
theorem kbn_part {n : Nat} {ks : List Str} (ms : List (Str × V)) (js : List Nat) (F : FunD K x qual pr body sc [] kws f fd) (hk : kws ≠ []) (hms : ∀ q ∈ ms, q ∈ kws)
    (h : ∀ (D : Addr) (doc pm : Value) (an : Option Addr) (cdv ct : Value) (us mv ws : List Value), us.length = n → mv.length = ms.length → ws.length = ks.length →
      KwChain D ((ms.map (·.1)).zip mv) (bindArgs (PySem.W.fnOf x qual pr body sc .none (.ref D) doc pm an cdv ct) ⟨us, ks.zip ws⟩) (ps.zip (sel js (us ++ ws ++ mv)))) :
    ∃ mv : List Value, KBn K fd ps n ks (fun us ws => sel js (us ++ ws ++ mv)) (fun vs zs => sel js (vs ++ zs ++ ms.map (·.2))) :=
  F.kbinds0 n ks ms (fun us mv ws => sel js (us ++ ws ++ mv)) hk hms (fun a b c => vals_sel ((a.append c).append b) js) h
end
theorem AllR.of_ra {K : PySem.W.Frag} {ρ : VL.Env} {F : FS} {H H1 : Hp} : ∀ {vs : List V} {ds : List PyData}, RA K F H vs ds → AllR K ρ F H H1 vs (ds.map SV.v)
  | _, _, .nil => trivial
  | _, _, .cons a b => ⟨a, trivial, AllR.of_ra b⟩
def vCallD (n1 n2 n : Nat) (js : List Nat) (tf : TF) (dss : List PyData) (t tk : TVs) : TV := fun ρ Q => t ρ fun ss => tk ρ fun zs =>
  TapsOld ρ (sel js (ss ++ zs ++ dss.map SV.v)) ∧ ∃ ts, hands (sel js (ss ++ zs ++ dss.map SV.v)) = some ts ∧ ss.length = n1 ∧ zs.length = n2 ∧ ts.length = n ∧ tf ts Q
section
variable {X : Cx} {e : Expr}
theorem ve_callD {κ1 κ2 κ : Nat} {n1 n2 n : Nat} {js : List Nat} {tf : TF} {dvs : List V} {dss : List PyData} {es : List Expr} {ks : List Keyword} {t tk : TVs}
    (h : ∀ ta tk', PA X es ta → PK X ks tk' → PE X e (tCallN n1 n2 (spOf X.K n κ tf) (fun a b => sel js (a ++ b ++ dvs)) E0 ta tk')) (hd : ∀ F H, RA X.K F H dvs dss) (ha : VA X es t κ1) (hk : VK X ks tk κ2) : VE X e (vCallD n1 n2 n js tf dss t tk) (κ1 + κ2 + κ) := by
  obtain ⟨ta, pa, g⟩ := ha
  obtain ⟨tke, pk, gk⟩ := hk
  refine ⟨_, h ta tke pa pk, fun B F H σ ρ Q R er bq t k => ?_⟩
  refine g B F H σ ρ _ _ er (by omega) t fun ss us F1 H1 cq q1 x1 a1 => ?_
  refine gk B F1 H1 σ ρ _ _ (er.step x1) (by omega) q1 fun zs vs F2 H2 cq ⟨ol, ts, e, l1, l2, hn, q⟩ x2 a2 => ?_
  have al := ((a1.keep er.refl.cp x2).append (a2.back x1)).append (AllR.of_ra (hd F2 H2))
  have := call_go (dss := []) (vs := []) (x1.trans x2) (al.sel js) ol e (fun _ _ => .nil) (by simpa using hn) (κ := κ) (by omega) (tf := tf) (Q := Q) (R := R) (by simpa using q) fun s u F' H' c => k s u F' H' (by omega)
  rw [List.append_nil] at this
  exact ⟨a1.len.trans l1, a2.len.trans l2, this⟩
theorem ve_callD0 {κ1 κ : Nat} {n2 n : Nat} {js : List Nat} {tf : TF} {dvs : List V} {dss : List PyData} {ks : List Keyword} {tk : TVs}
    (h : ∀ tk', PK X ks tk' → PE X e (tCallN 0 n2 (spOf X.K n κ tf) (fun a b => sel js (a ++ b ++ dvs)) E0 tNil tk')) (hd : ∀ F H, RA X.K F H dvs dss) (hk : VK X ks tk κ1) : VE X e (vCallD 0 n2 n js tf dss vNil tk) (κ1 + κ) := by
  obtain ⟨tke, pk, gk⟩ := hk
  refine ⟨_, h tke pk, fun B F H σ ρ Q R er bq t k => ?_⟩
  refine gk B F H σ ρ _ _ er (by omega) t fun zs vs F2 H2 cq ⟨ol, ts, e, l1, l2, hn, q⟩ x2 a2 => ?_
  have al := AllR.append (us := []) (ss := []) trivial (a2.append (AllR.of_ra (hd F2 H2)))
  have := call_go (us := sel js ([] ++ vs ++ dvs)) (ss := sel js ([] ++ zs ++ dss.map SV.v)) (dss := []) (vs := []) x2 (by simpa using al.sel js) ol e (fun _ _ => .nil) (by simpa using hn) (κ := κ) (by omega) (tf := tf) (Q := Q) (R := R) (by simpa using q) fun s u F' H' c => k s u F' H' (by omega)
  rw [List.append_nil] at this
  exact ⟨rfl, a2.len.trans l2, this⟩
end
theorem s_callD {n1 n2 n : Nat} {js : List Nat} {tf : TF} {dss : List PyData} {t tk : TVs} {ρ : VL.Env} {Q : SV → Prop} : vCallD n1 n2 n js tf dss t tk ρ Q = t ρ fun ss => tk ρ fun zs =>
  TapsOld ρ (sel js (ss ++ zs ++ dss.map SV.v)) ∧ ∃ ts, hands (sel js (ss ++ zs ++ dss.map SV.v)) = some ts ∧ ss.length = n1 ∧ zs.length = n2 ∧ ts.length = n ∧ tf ts Q := (Eq.refl _).trans (Eq.refl _)

/-! ### sorted(set(xs)), xs a tuple or list of ints -/
def rSetI (w : World) (K : PySem.W.Frag) : List V → Hp → L2.VK → Prop := fun vs H Q => ∃ (p : Addr) (ns : List Int), vs = [.ref p] ∧ SqT K H p (ns.map V.int) ∧ ns.length ≤ 1000 ∧
  ∀ (a : Addr) (c : Nat), H a = none → c ≤ ns.length → Q (.ref a) (upd H a (SetO w a (fun j => decide (j ∈ ns)) c))
theorem cr_setI {X : Cx} (hc : X.calm = true) : CallR X (.type "set") (rSetI X.w X.K) := by
  intro pins s σ H xs us Q J r h
  obtain ⟨p, ns, rfl, hq, hl, q⟩ := h
  obtain ⟨u, rfl, rx⟩ := vals1 r
  cases rx
  obtain ⟨vz, rv, pt, _⟩ := J.tuple hq
  refine call_set_tupI ns (J.ok.hd hc) (show s.heap.IsTuple p vz.toArray from pt) (ints_of_vals rv) (by unfold scanBound; omega) fun h' tk c R1 hcn k => ?_
  exact ⟨.ref s.heap.objs.size, _, J.laid (t' := tk) k (Nat.le_refl _) (setO_new R1), rfl, q _ c (J.hok.fresh (Nat.le_refl _)) hcn⟩
/-- ns without what comes twice, rising -/
structure IsSorted (ns ms : List Int) : Prop where
  ri : ms.Pairwise (· < ·)
  mem : ∀ k, k ∈ ms ↔ k ∈ ns
theorem IsSorted.uniq {ns ms ms' : List Int} (a : IsSorted ns ms) (b : IsSorted ns ms') : ms = ms' := by
  have p : ms.Perm ms' := (List.perm_ext_iff_of_nodup (a.ri.imp fun h => Int.ne_of_lt h) (b.ri.imp fun h => Int.ne_of_lt h)).mpr fun k => (a.mem k).trans (b.mem k).symm
  exact p.eq_of_pairwise (le := (· ≤ ·)) (fun x y _ _ h1 h2 => Int.le_antisymm h1 h2) (a.ri.imp fun h => Int.le_of_lt h) (b.ri.imp fun h => Int.le_of_lt h)
def vSortSet (t : TV) : TV := fun ρ Q => t ρ fun s => ∃ ns : List Int, s.asT = some (ns.map PyData.int) ∧ ns.length < 64 ∧ ∀ ms : List Int, IsSorted ns ms → Q (.own (ms.map PyData.int))
theorem ve_sortSet {X : Cx} {κ1 : Nat} {e a : Expr} {t : TV} (h : ∀ te, PE X a te → PE X e (tCB (rSortedSet X.w) (tCons (tCB (rSetI X.w X.K) (tCons te tNil)) tNil))) (ha : VE X a t κ1) : VE X e (vSortSet t) κ1 := by
  obtain ⟨te, pe, g⟩ := ha
  refine ⟨_, h te pe, fun B F H σ ρ Q R er bq t k => ?_⟩
  refine g B F H σ ρ _ _ er (by omega) t fun s u F1 H1 cq ⟨ns, e1, hl, q⟩ x => ?_
  obtain ⟨p, xs, rfl, sq, r⟩ := asT_sq x.sr e1
  rw [data_ints r] at sq
  refine ⟨p, ns, rfl, sq.t, by omega, fun a c ha hc => ⟨a, _, c, rfl, upd_same, by omega, fun ms l ri mem hn hl2 => ?_⟩⟩
  have st : Stp (fun _ => False) F1 F1 H1 (upd H1 a (SetO X.w a (fun j => decide (j ∈ ns)) c)) := Stp.new ha
  have dm : FOk F1 (upd H1 a (SetO X.w a (fun j => decide (j ∈ ns)) c)) := x.dm.new ha
  have x2 : Ext ρ F H F1 (upd H1 a (SetO X.w a (fun j => decide (j ∈ ns)) c)) := x.toExt.trans (⟨st.more fun _ z => z.elim, dm, fun i b ns' hi => (er.step x.toExt |>.cell hi).keep st (fun z => z), fun b ⟨i, ns', hi⟩ => (er.step x.toExt |>.cell hi).there⟩ : Ext ρ F1 H1 F1 _)
  exact k _ _ _ _ (by omega) (q ms ⟨ri, fun j => (mem j).trans (by simp)⟩) ((PRes.newL (us := ms.map V.int) dm hl2 (RA.ints ms)).res x2 fun _ _ z => nomatch z)

/-! ### t.index(x) -/
def rTupIx (K : PySem.W.Frag) : V → List V → Hp → L2.VK → Prop := fun x xs H Q => ∃ (p : Addr) (ws : List V) (y : V) (d : PyData) (ds : List PyData) (j : Nat) (z : PyData), x = V.ref p ∧ xs = [y] ∧ SqT K H p ws ∧ DpAll K H ws ds ∧ Dp K H y d ∧
  PyData.canLayAll0 ds = true ∧ d.canLay0 = true ∧ d.depth ≤ 60 ∧ ds[j]? = some z ∧ PyData.eqv z d = true ∧ (∀ (m : Nat) (z' : PyData), m < j → ds[m]? = some z' → PyData.eqv z' d = false) ∧ Q (.int (j : Nat)) H
theorem mt_tupIx {X : Cx} (hu : X.A.units + 64 < cLine) : MtR X "tuple.index" (rTupIx X.K) := by
  intro pins s σ H x xs v us Q J rx rxs h
  obtain ⟨p, ws, y, d, ds, j, z, rfl, rfl, hq, hds, hy, c1, c2, c3, hz, ez, no, q⟩ := h
  cases rx
  obtain ⟨uy, rfl, ry⟩ := vals1 rxs
  obtain ⟨bs, rb⟩ := Dp.reads J d y uy hy ry
  obtain ⟨vz, rv, ⟨⟨cls, dd, dat, slo⟩, ho, hc, n, hd⟩, _⟩ := J.tuple hq
  simp only at hc hd
  subst hc hd
  obtain ⟨as, ra⟩ := Dp.readsAll J ds ws vz hds rv
  have ln : vz.length = ds.length := SeqAt.ReadsAll.length ds vz as ra
  have em : vz.map (SeqAt.readOf s.heap) = ds := SeqAt.readsAll_map ds vz as c1 ra
  have at_ : ∀ (m : Nat) (hm : m < vz.toArray.size) (w : PyData), ds[m]? = some w → SeqAt.readOf s.heap vz.toArray[m] = w := fun m hm w hw => by
    rw [← em, List.getElem?_map] at hw
    have hl : m < vz.length := by simpa using hm
    rw [List.getElem?_eq_getElem hl] at hw
    simpa using hw
  have hj : j < vz.toArray.size := by
    have := (List.getElem?_eq_some_iff.mp hz).1
    simp only [List.size_toArray]
    omega
  have room := inD_room (ds := ds) hu c3
  refine call_meets PySem.F.slot_tuple_index ⟨_, ho, rfl⟩ PySem.F.entry_tuple_index (PySem.F.args_tuple_index_2 _ _) (TI.tuple_indexAt p vz.toArray n dd slo uy (fun u => PyData.eqv (SeqAt.readOf s.heap u) d) j hj ?_ ?_)
    ⟨ho, SeqAt.items_eqAt (vs := vz.toArray) (show ReadsAll s.heap vz.toArray.toList ds as from ra) rb c1 c2 room, ⟨.int (j : Nat), H, J.tok _, ⟨_, rfl⟩, q⟩⟩
  · show PyData.eqv (SeqAt.readOf s.heap vz.toArray[j]) d = true
    rw [at_ j hj z hz]
    exact ez
  · intro m hm hmj
    have hl : m < ds.length := by
      simp only [List.size_toArray] at hm
      omega
    have e := List.getElem?_eq_getElem hl
    show PyData.eqv (SeqAt.readOf s.heap vz.toArray[m]) d = false
    rw [at_ m hm _ e]
    exact no m _ hmj e
/-- a method of a tuple that is known to hold no dict -/
def tBMN (K : PySem.W.Frag) (r : V → List V → Hp → L2.VK → Prop) (to : TE) (t : TA) : TE := fun σ H Q => to σ H fun x H1 => (∃ p xs, x = .ref p ∧ SqN K H1 p xs) ∧ t σ H1 fun xs H2 => r x xs H2 Q
section
variable {X : Cx} {o e : Expr} {es : List Expr} {to : TE} {t : TA} {name : Str} {apos cpos : Pos} {id : String} {r : V → List V → Hp → L2.VK → Prop}
theorem pe_bmN (pa : PlainAttrs "tuple") (sl : Slot "tuple" name id) (ty : typeOf (.builtin id) = pure (.type "method_descriptor")) (hm : MtR X id r) (ho : PE X o to) (ha : PA X (e :: es) t) (e1 : attributeBase o name X.env (eval o X.env) = eval o X.env := by rfl)
    (e2 : ((backTo cpos (starEach (e :: es) X.env)).all (fun x => !x.1) && (backToKw cpos (keywordEach [] X.env)).all (fun x => x.1.isSome) && decide ((e :: es).length + ([] : List Keyword).length + (if ([] : List Keyword).isEmpty then 0 else 1) < 30)) = true := by rfl) (e3 : (apos.endLine == cpos.line) = true := by rfl)
    (e4 : starEach (e :: es) X.env = (false, eval e X.env) :: starEach es X.env := by rfl) (e5 : (backTo cpos (starEach es X.env)).any (·.1) = false := by rfl) : PE X (.Call (.Attribute o name apos) (e :: es) [] cpos) (tBMN X.K r to t) := by
  refine ⟨fun pins s σ H Q J h => wpAny_Call_method_late e1 e2 e3 rfl (thn (ho.run pins s σ H _ J h) fun v s1 w => ?_)⟩
  obtain ⟨x, H1, J1, r1, ⟨p, xs, rfl, sq⟩, q1⟩ := w
  cases r1
  obtain ⟨ob, g1, g2, g3⟩ := sq.free J1
  refine ⟨"tuple", id, pa, sl, ty, ⟨ob, g1, g2⟩, fun a ea => by cases ea; exact ⟨ob, g1, g3⟩, ?_⟩
  have go := ha.run cpos pins s1 σ H1 _ J1 q1
  rw [e4] at go ⊢
  refine Calls.callWith_builtin (by show (false || (backTo cpos (starEach es X.env)).any (·.1)) = false; rw [e5]; rfl) (Calls.evalArgs_plain (thn go fun us s2 w2 => ?_))
  obtain ⟨ys, H2, J2, r2, q2⟩ := w2
  exact hm pins s2 σ H2 (.ref p) ys (.ref p) us Q J2 rfl r2 q2
end
def vTupIx (to ty : TV) : TV := fun ρ Q => to ρ fun a => ∃ ds, a = .v (.tuple ds) ∧ ty ρ fun b => ∃ d j z, b = .v d ∧ PyData.canLayAll0 ds = true ∧ d.canLay0 = true ∧ d.depth ≤ 60 ∧ ds[j]? = some z ∧ PyData.eqv z d = true ∧
  (∀ (m : Nat) (z' : PyData), m < j → ds[m]? = some z' → PyData.eqv z' d = false) ∧ Q (.v (.int (j : Nat)))
theorem ve_tupIx {X : Cx} {κ1 κ2 : Nat} {e a b : Expr} {to ty : TV} (h : ∀ te ti, PE X a te → PE X b ti → PE X e (tBMN X.K (rTupIx X.K) te (tCons ti tNil))) (ha : VE X a to κ1) (hb : VE X b ty κ2) : VE X e (vTupIx to ty) (κ1 + κ2) := by
  obtain ⟨te, pe, g⟩ := ha
  obtain ⟨ti, pi, gi⟩ := hb
  refine ⟨_, h te ti pe pi, fun B F H σ ρ Q R er bq t k => ?_⟩
  refine g B F H σ ρ _ _ er (by omega) t fun s u F1 H1 cq ⟨ds, e1, q⟩ x => ?_
  subst e1
  obtain ⟨p, xs, rfl, sq, _⟩ := asT_sq (ds := ds) x.sr rfl
  refine ⟨⟨p, xs, rfl, sq⟩, gi B F1 H1 σ ρ _ _ (er.step x.toExt) (by omega) q fun s2 u2 F2 H2 cq2 ⟨d, j, z, e2, c1, c2, c3, hz, ez, no, q2⟩ x2 => ?_⟩
  subst e2
  have y := x.toExt.trans x2.toExt
  obtain ⟨p', xs', ep, sq', r'⟩ := asT_sq (ds := ds) (x.sr.keep x.fo er.refl.cp x2.toExt) rfl
  exact ⟨p', xs', u2, d, ds, j, z, ep, rfl, sq'.t, RA.dp r' (layAll_nd c1), asD_dp x2.sr rfl (PyData.hasDict_of_canLay d c2), c1, c2, c3, hz, ez, no, k _ _ F2 H2 (by omega) q2 ⟨y, .int _, trivial⟩⟩
section
variable {t to ty : TV} {ρ : VL.Env} {Q : SV → Prop}
theorem m_sortSet : vSortSet t ρ Q = t ρ fun s => ∃ ns : List Int, s.asT = some (ns.map PyData.int) ∧ ns.length < 64 ∧ ∀ ms : List Int, IsSorted ns ms → Q (.own (ms.map PyData.int)) := (Eq.refl _).trans (Eq.refl _)
theorem m_vtupIx : vTupIx to ty ρ Q = to ρ fun a => ∃ ds, a = .v (.tuple ds) ∧ ty ρ fun b => ∃ d j z, b = .v d ∧ PyData.canLayAll0 ds = true ∧ d.canLay0 = true ∧ d.depth ≤ 60 ∧ ds[j]? = some z ∧ PyData.eqv z d = true ∧
  (∀ (m : Nat) (z' : PyData), m < j → ds[m]? = some z' → PyData.eqv z' d = false) ∧ Q (.v (.int (j : Nat))) := (Eq.refl _).trans (Eq.refl _)
end
end VL
namespace VL
open PySem PySem.Spec PyProof.Rows L2 VG

/-- tuples with texts ahead; those of one text can be compared to their ends -/
structure HeadAlike (ds : List PyData) : Prop where
  tup : ∀ d ∈ ds, ∃ x r, d = .tuple (.str x :: r)
  alk : ∀ x r r', PyData.tuple (.str x :: r) ∈ ds → PyData.tuple (.str x :: r') ∈ ds → PySem.W.alikeAll r r' = true
theorem HeadAlike.two {ds : List PyData} (h : HeadAlike ds) {x : Str} {r r' : List PyData} (m : PyData.tuple (.str x :: r) ∈ ds) (m' : PyData.tuple (.str x :: r') ∈ ds) : PySem.W.alikeAll (.str x :: r) (.str x :: r') = true := by
  rw [PySem.W.alikeAll, h.alk x r r' m m']
  rfl
theorem reads_head {h : Heap} {v : Value} {x y : Str} {r r' : List PyData} {as bs : List Addr} (a : Reads h v (.tuple (.str x :: r)) as) (b : Reads h v (.tuple (.str y :: r')) bs) : x = y := by
  cases a with
  | tuple h1 h2 h3 h4 =>
    cases b with
    | tuple k1 k2 k3 k4 =>
      rw [h1] at k1
      cases k1
      rw [h3] at k3
      injection k3 with k3 _
      subst k3
      revert h4 k4
      generalize Array.toList _ = l
      intro h4 k4
      cases h4 with
      | cons a1 a2 =>
        cases k4 with
        | cons b1 b2 =>
          cases a1
          cases b1
          rfl
theorem headKind_some {h : Heap} {ds : List PyData} (hal : HeadAlike ds) {v : Value} {d : PyData} {as : List Addr} (hd : d ∈ ds) (r : Reads h v d as) : (PySem.W.dataKind h ds).keyOf v = some (PySem.W.keyToks d) := by
  have q : ∃ d, d ∈ ds ∧ ∃ as, Reads h v d as := ⟨d, hd, as, r⟩
  have e : (PySem.W.dataKind h ds).keyOf v = some (PySem.W.keyToks q.choose) := dif_pos q
  obtain ⟨m, as2, r2⟩ := q.choose_spec
  rw [e]
  congr 2
  generalize q.choose = d2 at m r2 ⊢
  obtain ⟨x, t, rfl⟩ := hal.tup d hd
  obtain ⟨y, t2, rfl⟩ := hal.tup d2 m
  obtain rfl := reads_head r2 r
  exact PySem.W.alike_unique _ _ _ _ _ (hal.two m hd) r2 r
section
variable {prog : Program} {w : World} {A : Around} {s : Shared}
theorem sortsAt_heads {vs : List Value} {ds : List PyData} (e : PySem.W.EachIs (fun v d => ∃ as, Reads s.heap v d as) vs ds) (hal : HeadAlike ds) (hu : ∀ d, d ∈ ds → A.units + d.depth < cLine) : PySem.W.SortsAt prog w A s (PySem.W.dataKind s.heap ds) vs := by
  have tt : ∀ d, d ∈ ds → ∃ x r, d = PyData.tuple (x :: r) := fun d hd => let ⟨x, r, z⟩ := hal.tup d hd; ⟨.str x, r, z⟩
  have hb : (Value.type "str" != Value.type "tuple") = true := by decide
  refine ⟨fun v hv => ?_, tuples' (Value.type "str" != Value.type "tuple"), ?_, fun h2 E Q hq => ?_⟩
  · obtain ⟨d, hd, as, r⟩ := e.left v hv
    exact ⟨_, headKind_some hal hd r⟩
  · intro E x y a b Q ha hb' hq
    obtain ⟨d, as, hd, ra, rfl⟩ := PySem.W.dataKind_inv ha
    obtain ⟨d2, as2, hd2, rb, rfl⟩ := PySem.W.dataKind_inv hb'
    obtain ⟨x1, r1, rfl⟩ := hal.tup d hd
    obtain ⟨x2, r2, rfl⟩ := hal.tup d2 hd2
    have room := hu _ hd
    replace hq : Q (PySem.W.dataLt (.tuple (.str x1 :: r1)) (.tuple (.str x2 :: r2))) s := hq
    rw [PySem.W.dataLt_tuple] at hq
    cases ra with
    | @tuple l o xs n _ _ h1 h2 h3 h4 =>
      cases rb with
      | @tuple l' o' xs' n' _ _ k1 k2 k3 k4 =>
        have n1 : xs.size = (PyData.str x1 :: r1).length := by simpa using SeqAt.ReadsAll.length _ _ _ h4
        have n2 : xs'.size = (PyData.str x2 :: r2).length := by simpa using SeqAt.ReadsAll.length _ _ _ k4
        refine PySem.W.kat_lt h1 h3 k1 k3 ?_
        by_cases ex : x1 = x2
        · subst ex
          refine PySem.W.katLex_alike (.str x1 :: r1) (.str x1 :: r2) 0 _ _ _ _ h4 k4 (hal.two hd hd2) ?_ (fun _ _ z t t2 ez => by cases ez; exact fun z => nomatch z) (by rw [n1, n2]) hq
          have : min (PyData.depthAll (.str x1 :: r1)) (PyData.depthAll (.str x1 :: r2)) ≤ PyData.depthAll (.str x1 :: r1) := Nat.min_le_left _ _
          simp only [PyData.depth] at room
          omega
        · rw [PySem.W.dataLt_all_no (x := .str x1) (y := .str x2) rfl (by simp only [PyData.eqv]; exact beq_false_of_ne ex), PySem.W.dataLt_str] at hq
          revert h4 k4
          generalize xs.toList = u1
          generalize xs'.toList = u2
          intro h4 k4
          cases h4 with
          | cons a1 a2 =>
            cases k4 with
            | cons b1 b2 =>
              cases a1
              cases b1
              rw [List.zip_cons_cons]
              refine PySem.W.kat_cons (wpAny_eqBool_str ?_)
              rw [decide_eq_false ex]
              refine PySem.W.kat_no ?_
              rw [hb]
              exact oneLt_str hq
  · obtain ⟨fs, t1, t2, t3⟩ := PySem.W.each_katTups e tt
    refine PySem.W.kat_kind (T := .type "str") t1 (by omega) (fun f hf => ?_) (beq_self_eq_true _) hq
    obtain ⟨x, r, as, m1, m2⟩ := t3 f hf
    obtain ⟨z, t, ez⟩ := hal.tup _ m1
    injection ez with ez
    injection ez with ez _
    subst ez
    exact PySem.W.looks_reads m2
end
section
variable {X : Cx} {K : PySem.W.Frag}
def rSortedH (K : PySem.W.Frag) : List V → Hp → L2.VK → Prop := fun xs H Q => ∃ (P : V → PyData → Prop) (a : Addr) (vs : List V) (ds : List PyData), xs = [.ref a] ∧ SqL K H a vs ∧ PySem.W.EachIs P vs ds ∧ DpAll K H vs ds ∧ HeadAlike ds ∧ (∀ d ∈ ds, d.depth ≤ 60) ∧
  ∀ ys p, PySem.W.EachIs P ys (Srts ds) → H p = none → Q (.ref p) (upd H p (.lst ys))
theorem cr_sortedH {k : Nat} (hr : Room k X.A) : CallR X (.builtin "sorted") (rSortedH X.K) := by
  intro pins s σ H xs us Q J r h
  obtain ⟨P, a, vs, ds, rfl, hs, ep, dp, al, dl, q⟩ := h
  obtain ⟨vz, rv, hl, hz⟩ := J.list hs
  obtain ⟨u, rfl, ru⟩ := vals1 r
  obtain rfl : u = Value.ref a := ru
  obtain ⟨as, rd⟩ := Dp.readsAll J ds vs vz dp rv
  have ev := each_vals rv ep
  have lens := ev.length
  have room := hu64 hr
  have er : PySem.W.EachIs (fun v d => ∃ as, Reads (PySem.W.sortingHeap (PySem.W.copyHeap s.heap vz) (s.heap.objs.size + 1) vz) v d as) vz ds :=
    (each_reads rd).mono fun _ _ z => let ⟨as, z⟩ := z; ⟨as, PyProof.Rows.Reads.keeps (fun _ _ => PySem.W.sorting_copy_old) z⟩
  have lo : vz.length ≤ sizeLine := by rw [← rv.length]; exact hz
  refine PySem.W.sorted_vals hl.isList (sortsAt_heads (s := { s with heap := PySem.W.sortingHeap (PySem.W.copyHeap s.heap vz) (s.heap.objs.size + 1) vz }) er al fun d hd => ?_) lo ?_
  · have := dl d hd
    show _ + 2 + d.depth < cLine
    omega
  · have ek : PySem.W.EachIs (fun v d => (PySem.W.dataKind (PySem.W.sortingHeap (PySem.W.copyHeap s.heap vz) (s.heap.objs.size + 1) vz) ds).keyOf v = some (PySem.W.keyToks (id d))) vz ds :=
      (PySem.W.each_mem er).mono fun _ _ z => let ⟨⟨_, r⟩, hd⟩ := z; headKind_some al hd r
    have eo : PySem.W.EachIs (fun u d => ∃ x, RelV x u ∧ P x d) _ (Srts ds) := PySem.W.sortVals_each (rev := false) (κ := PySem.W.dataKind (PySem.W.sortingHeap (PySem.W.copyHeap s.heap vz) (s.heap.objs.size + 1) vz) ds) (fun d : PyData => PySem.W.keyToks (id d)) ev ek
    obtain ⟨ys, g1, g2⟩ := vals_each eo
    obtain ⟨n, hn⟩ := sortedAll_at s.heap vz (PySem.W.sortVals (PySem.W.dataKind (PySem.W.sortingHeap (PySem.W.copyHeap s.heap vz) (s.heap.objs.size + 1) vz) ds) false vz vz).toArray
    refine ⟨.ref (s.heap.objs.size + 1), upd H (s.heap.objs.size + 1) (.lst ys), J.laid (t' := s.toks) (fun b o e => sortedAll_old e) (Nat.le_succ _) ⟨?_, _, n, g1, hn⟩, rfl, q _ _ g2 (J.hok.fresh (Nat.le_succ _))⟩
    rw [g1.length, PySem.W.sortVals_length false rfl]
    exact lo
def fSortH : FC := fun ss Q => ∃ s ds, ss = [s] ∧ s.asL = some ds ∧ HeadAlike ds ∧ PyData.hasDictAll ds = false ∧ (∀ d ∈ ds, d.depth ≤ 60) ∧ Q (.own (Srts ds))
theorem cs_sortH : CallS K (rSortedH K) fSortH := by
  intro F H us ss Q R fo al ⟨s, ds, e, e1, h1, h2, h3, q⟩ k
  subst e
  obtain ⟨u, rfl, h⟩ := ah1 al
  obtain ⟨a, xs, rfl, sq, r⟩ := asL_sq h e1
  exact ⟨fun v d => R1 K F H v d, a, xs, ds, rfl, sq, ra_each r, RA.dp r h2, h1, h3, fun ys p er hp => k _ _ _ _ q (fun _ _ z => nomatch z) (.newL fo hp (each_ra er))⟩
end
end VL
namespace VL
open PySem PySem.Spec PyProof.Rows L2 VG
section
variable {K : PySem.W.Frag}
/-- sum(xs) of a list or of a tuple of ints -/
def rSumQ (K : PySem.W.Frag) : List V → Hp → (V → Hp → Prop) → Prop := fun us G P => ∃ (b : Addr) (is : List Int), us = [V.ref b] ∧ (SqL K G b (is.map V.int) ∨ SqT K G b (is.map V.int)) ∧ P (.int is.sum) G
theorem cr_sumQ {X : Cx} (calm : X.calm = true) : CallR X (.builtin "sum") (rSumQ X.K) := by
  intro pn st sg G xs us P J rr hh
  obtain ⟨b, is, e, hq | hq, qq⟩ := hh
  · exact cr_sum calm pn st sg G xs us P J rr ⟨b, is, e, hq, qq⟩
  subst e
  obtain ⟨u, eu, rx⟩ := vals1 rr
  subst eu
  cases rx
  obtain ⟨vz, rv, hl, _⟩ := J.tuple hq
  have hi := rv.ints
  obtain ⟨zs, ez⟩ := hi.allInts.items
  have hn : numsOf (intItems zs).toList = is := by rw [← ez]; exact hi.numsOf
  rw [nums_intItems] at hn
  rw [ez] at hl
  refine PySem.W.ktm_sumG (J.ok.hd calm) hl fun h' tk tt kp => ?_
  rw [preSum_eq, List.take_of_length_le (by simp), hn]
  exact ⟨.int _, G, J.kept kp, ⟨_, rfl⟩, qq⟩
def fSumQ : FC := fun ss Q => ∃ (s : SV) (is : List Int), ss = [s] ∧ s.asQ = some (is.map PyData.int) ∧ Q (.v (.int is.sum))
theorem cs_sumQ : CallS K (rSumQ K) fSumQ := by
  intro F G us ss Q R fo al ⟨s, is, e, e1, q⟩ k
  subst e
  obtain ⟨u, eu, h⟩ := ah1 al
  subst eu
  obtain ⟨a, xs, e2, sq, r⟩ := asQ_sq h e1
  subst e2
  have er := data_ints r
  subst er
  exact ⟨a, is, rfl, sq.imp id SqN.t, k _ _ F G q (fun _ _ z => nomatch z) (.same fo (.int _))⟩
end

/-! ### xs.extend(ys), ys a list or a tuple -/
namespace TX
open PySem
theorem ext_tup (l : Addr) (is : Array Value) (c : Nat) (b : Addr) (js : Array Value) (e : Nat) (dd : Option Addr) (slo : Array (Option Value)) (long : ¬(!is.isEmpty && Builtin.List.listTooLong (is.size + js.size)) = true) (few : is.size ≤ sizeLine) (all : is.size + js.size ≤ sizeLine + 1) :
    Meets (Builtin.«list.extend» ⟨[.ref l, .ref b], []⟩) (fun _ R s => s.heap.get? l = some { cls := .type "list", dict := none, data := .seq is c, slots := #[] } ∧ s.heap.get? b = some { cls := .type "tuple", dict := dd, data := .seq js e, slots := slo } ∧
      R (.ok (.ret Value.none)) { s with heap := s.heap.update l (Obj.mapSeq fun z => z ++ js), toks := s.toks }) :=
  .of_wp fun prog w A R s hh => by
    obtain ⟨hp, gg, dr, tk, os⟩ := s
    obtain ⟨g1, g2, hh⟩ := hh
    have f1 := AutoSeq1.idx_int
    have f2 := AutoSeq1.sub_tuple_tuple
    have f3 := AutoSeq1.sub_list_list
    have f4 := AutoSeq1.sub_tuple_list
    have f5 := AutoSeq1.sub_list_tuple
    have siz : (is ++ js).size ≤ sizeLine + 1 := by rw [Array.size_append]; exact all
    wp_walk using (wpAny_updateSeq g1 rfl (hz := few) (_hz' := siz)), AutoSeq1.wpAny_loadPart' g1, AutoSeq1.wpAny_loadPart' g2
    exact ⟨_, rfl, hh⟩
end TX
def rExtendQ (K : PySem.W.Frag) : V → List V → Hp → (V → Hp → Prop) → Prop := fun x us G P => ∃ l b xs zs, x = .ref l ∧ us = [.ref b] ∧ G l = some (.lst xs) ∧ (G b = some (.lst zs) ∨ SqT K G b zs) ∧ xs.length + zs.length ≤ sizeLine ∧ P .non (upd G l (.lst (xs ++ zs)))
theorem mt_extendQ {X : Cx} : MtM X "list.extend" (rExtendQ X.K) := by
  intro pn st sg G x us v ws P J rx rv hh
  obtain ⟨l, b, xs, zs, e1, e2, gl, hb | hb, hz, qq⟩ := hh
  · exact mt_extend pn st sg G x us v ws P J rx rv ⟨l, b, xs, zs, e1, e2, gl, hb, hz, qq⟩
  subst e1 e2
  cases rx
  obtain ⟨u, eu, ru⟩ := rv.one
  subst eu
  cases ru
  obtain ⟨z, its, n, r, hl, e⟩ := J.lstM gl
  obtain ⟨vz, r2, ⟨⟨cls, dd, dat, slo⟩, ho, hc, n2, hd⟩, _⟩ := J.tuple hb
  simp only at hc hd
  subst hc hd
  have l2 := r2.length
  have hsz : its.toArray.size + vz.toArray.size ≤ sizeLine := by rw [List.size_toArray, List.size_toArray]; omega
  have hlong : ¬ (!its.toArray.isEmpty && Builtin.List.listTooLong (its.toArray.size + vz.toArray.size)) = true := by
    rw [notLongL hsz, Bool.and_false]
    exact Bool.false_ne_true
  refine call_meets PySem.F.slot_list_extend ⟨_, e, rfl⟩ PySem.F.entry_list_extend (PySem.F.args_list_extend_2 _ _) (TX.ext_tup l its.toArray n b vz.toArray n2 dd slo hlong (by rw [List.size_toArray]; omega) (by omega)) ⟨e, ho, ?_⟩
  refine ⟨.non, _, J.lset (its' := its ++ vz) gl e (by simp) (r.append r2) ?_, rfl, qq⟩
  rw [List.length_append]
  omega
def SV.asX (s : SV) : Option (List PyData) := match s.asW with
  | some es => some es
  | none => s.asT
def vExtendQ (i : Nat) (t : TV) : TVS := fun E ρ => ∃ ds, ρ[i]? = some (.own ds) ∧ t ρ fun s => ∃ es, s.asX = some es ∧ ds.length + es.length ≤ 100000 ∧ E.nx (ρ.set i (.own (ds ++ es)))
theorem m_extQ {i : Nat} {t : TV} {E : VEnds} {ρ : VL.Env} : vExtendQ i t E ρ = ∃ ds, ρ[i]? = some (.own ds) ∧ t ρ fun s => ∃ es, s.asX = some es ∧ ds.length + es.length ≤ 100000 ∧ E.nx (ρ.set i (.own (ds ++ es))) := (Eq.refl _).trans (Eq.refl _)
theorem vs_extendQ {X : Cx} {st : Stmt} {e : Expr} {i : Nat} {t : TV} {κ1 : Nat} (h : ∀ te, PE X e te → PS X st (tDrop (tBM X.K "list" (rExtendQ X.K) (tVar i) (tCons te tNil)))) (he : VE X e t κ1) : VS X st (vExtendQ i t) κ1 := by
  obtain ⟨te, pe, g⟩ := he
  refine ⟨_, h te pe, fun B F H σ ρ E D er bq ⟨ds, e2, t⟩ k => ?_⟩
  obtain ⟨p, us, h1, h2, _, _⟩ := er.own e2
  refine ⟨.ref p, h1, .inl ⟨rfl, us, SqL.of h2⟩, ?_⟩
  refine g B F H σ ρ _ _ er (by omega) t fun s u F1 H1 cq ⟨es, e1, hz, q⟩ x => ?_
  have er2 := er.step x.toExt
  obtain ⟨p', ws, h1', h2', nf, ra⟩ := er2.own e2
  rw [h1] at h1'
  injection h1' with h1'; injection h1' with h1'; injection h1' with h1'
  subst h1'
  have two : ∃ b zs, u = .ref b ∧ (H1 b = some (.lst zs) ∨ SqT X.K H1 b zs) ∧ RA X.K F1 H1 zs es := by
    unfold SV.asX at e1
    rcases ew : s.asW with _ | es'
    · rw [ew] at e1
      obtain ⟨b, zs, q1, q2, q3⟩ := asT_sq x.sr e1
      exact ⟨b, zs, q1, .inr q2.t, q3⟩
    · rw [ew] at e1
      cases e1
      obtain ⟨b, zs, q1, q2, q3⟩ := asW_at x.sr ew
      exact ⟨b, zs, q1, .inl q2, q3⟩
  obtain ⟨b, zs, rfl, h3, r⟩ := two
  refine ⟨p, b, ws, zs, rfl, rfl, h2', h3, ?_, k.nx F1 _ _ _ (by omega) (er2.write (c1 := .lst) e2 h1 h2' nf (ra.append r)) q⟩
  rw [ra.len, r.len]
  exact Nat.le_trans hz (by decide)
end VL
namespace VL
open PySem PySem.Spec PyProof.Rows L2 VG
namespace TX
open PySem
theorem max_args (a d : Value) : argsOk "max" ⟨[a], [(Str.ofString "default", d)]⟩ := by unfold argsOk; kernel_rfl
section
variable {prog : Program} {w : World} {A : Around} {E : Value → Shared → Prop} {s : Shared} {R : Result → Shared → Prop} {I : Addr} {fp wr : List Addr} {G : Array GenState → Array GenState → Prop} {n : Nat} {P : Nat → Value → Prop} {St : Nat → Shared → Prop}
/-- the end of the loop where one was found -/
theorem loop_one (W : WalksS prog w A.in1 I fp wr G n P St) (S : Addr) (hSf : S ∉ fp) {d : Value} {t : Shared} {vb : Value} {c : Nat} (hst : St n t) (hS : t.heap.get? S = some { cls := .type "list", dict := none, data := .seq #[vb, vb] c, slots := #[] })
    (hR : ∀ s', Moved (S :: wr) G t s' → R (.ok (.ret vb)) s') : codeAny (model prog w) A (.builtin "max.loop" ⟨[.ref I, .none, .ref S], [(Str.ofString "default", d)]⟩) R t := by
  have nSw : S ∉ wr := fun z => hSf (W.sub _ z)
  have sub : ∀ b ∈ wr, b ∈ S :: wr := fun b z => List.mem_cons_of_mem _ z
  have oth : ∀ {b : Addr}, b ∉ S :: wr → S ≠ b := fun z e => z (by rw [e]; exact List.mem_cons_self)
  refine codeAny_builtin PySem.F.entry_max_loop ?_
  rw [Around.under_plainId PySem.F.plain_max_loop _]
  show wpAny _ A.in1 (seqItems? (.ref S) >>= _) _ _ t
  refine wpAny_bind (wpAny_seqItems hS rfl ?_)
  show wpAny _ A.in1 (tryCatch (pyNext (.ref I)) _ >>= _) _ _ t
  refine wpAny_bind (wpAny_tryCatch (W.done t _ _ hst fun s' hm => ?_))
  have hS2 := hm.heap S _ nSw hS
  show wpAny _ A.in1 (updateSeq S (fun _ => #[]) >>= _) _ _ _
  refine wpAny_bind ?_
  refine wpAny_updateSeq hS2 rfl (wpAny_bind (wpAny_letGo (wpAny_pure ?_)))
  exact hR _ ((hm.mono sub).then_heap (tk := s'.toks) (Nat.le_refl _) fun b o hb e => (Heap.get?_update_other _ _ (oth hb)).trans e)
/-- the loop over none: the default -/
theorem loop_none (W : WalksS prog w A.in1 I fp wr G 0 P St) (S : Addr) (hSf : S ∉ fp) {d : Value} {t : Shared} {c : Nat} (hst : St 0 t) (hS : t.heap.get? S = some { cls := .type "list", dict := none, data := .seq #[] c, slots := #[] })
    (hR : ∀ s', Moved (S :: wr) G t s' → R (.ok (.ret d)) s') : codeAny (model prog w) A (.builtin "max.loop" ⟨[.ref I, .none, .ref S], [(Str.ofString "default", d)]⟩) R t := by
  have sub : ∀ b ∈ wr, b ∈ S :: wr := fun b z => List.mem_cons_of_mem _ z
  refine codeAny_builtin PySem.F.entry_max_loop ?_
  rw [Around.under_plainId PySem.F.plain_max_loop _]
  show wpAny _ A.in1 (seqItems? (.ref S) >>= _) _ _ t
  refine wpAny_bind (wpAny_seqItems hS rfl ?_)
  show wpAny _ A.in1 (tryCatch (pyNext (.ref I)) _ >>= _) _ _ t
  refine wpAny_bind (wpAny_tryCatch (W.done t _ _ hst fun s' hm => ?_))
  show wpAny _ A.in1 (rule _ >>= _) _ _ _
  refine wpAny_bind (wpAny_rule ?_)
  exact wpAny_pure (hR _ (hm.mono sub))
theorem loop_first (W : WalksS prog w A.in1 I fp wr G 1 P St) (S : Addr) (hSf : S ∉ fp) {d : Value} {t : Shared} {c : Nat} (hst : St 0 t) (hS : t.heap.get? S = some { cls := .type "list", dict := none, data := .seq #[] c, slots := #[] })
    (hR : ∀ v s', P 0 v → Moved (S :: wr) G t s' → R (.ok (.ret v)) s') : codeAny (model prog w) A (.builtin "max.loop" ⟨[.ref I, .none, .ref S], [(Str.ofString "default", d)]⟩) R t := by
  have nSw : S ∉ wr := fun z => hSf (W.sub _ z)
  have sub : ∀ b ∈ wr, b ∈ S :: wr := fun b z => List.mem_cons_of_mem _ z
  have nam : (toString "max" ++ toString ".loop" : String) = "max.loop" := by decide
  have oth : ∀ {b : Addr}, b ∉ S :: wr → S ≠ b := fun z e => z (by rw [e]; exact List.mem_cons_self)
  refine codeAny_builtin PySem.F.entry_max_loop ?_
  rw [Around.under_plainId PySem.F.plain_max_loop _]
  show wpAny _ A.in1 (seqItems? (.ref S) >>= _) _ _ t
  refine wpAny_bind (wpAny_seqItems hS rfl ?_)
  show wpAny _ A.in1 (tryCatch (pyNext (.ref I)) _ >>= _) _ _ t
  refine wpAny_bind (wpAny_tryCatch (W.item 0 t _ _ Nat.one_pos hst fun v s' hP hst' hm => ?_))
  have hS2 := hm.heap S _ nSw hS
  show wpAny _ A.in1 (updateSeq S (fun _ => #[v, v]) >>= _) _ _ _
  refine wpAny_bind ?_
  refine wpAny_updateSeq hS2 rfl ?_
  rw [nam]
  refine wpAny_pure ⟨plainId_quiet PySem.F.plain_max_loop _, loop_one W S hSf (W.frame _ s' _ s'.toks hst' (Nat.le_refl _) fun b hb o e => ?_) (Heap.get?_update_self _ hS2 rfl) fun s'' hm2 => ?_⟩
  · exact (Heap.get?_update_other _ _ (fun z : S = b => hSf (by rw [z]; exact hb))).trans e
  · exact hR v s'' hP (Moved.trans W.gtrans ((hm.mono sub).then_heap (by first | exact Nat.le_refl _ | exact Nat.le_succ _ | omega) fun b o hb e => (Heap.get?_update_other _ _ (oth hb)).trans e) hm2)
end
section
variable {prog : Program} {w : World} {A : Around} {E : Value → Shared → Prop} {s : Shared} {l : Addr} {xs : Array (Int × Tok)}
theorem max_dflt {d : Value} {Q : Value → Shared → Prop} (hh : A.handled = none) (hl : s.heap.IsList l (intItems xs)) (few : xs.size ≤ 1)
    (h : ∀ v h' tk, (xs.size = 0 → v = d) → (xs.size = 1 → ∃ t, v = .int (numAt xs 0) t) → (∀ b o, s.heap.get? b = some o → h'.get? b = some o) → Q v { s with heap := h', toks := tk }) :
    wpAny (model prog w) A (call (.builtin "max") [.ref l] [(Str.ofString "default", d)]) Q E s := by
  have nam : (toString "max" ++ toString ".loop" : String) = "max.loop" := by decide
  have sz : (intItems xs).size = xs.size := by simp [intItems]
  refine kmk_tree PySem.F.kind_max PySem.F.plain_max PySem.F.entry_max (max_args _ _) ?_
  show wpAny _ A.in1 (Builtin.Builtins.bindParams "max" ["key", "default"] 0 ⟨[], [(Str.ofString "default", d)]⟩ >>= _) _ _ s
  refine wpAny_bind (wpAny_of_eq (show Builtin.Builtins.bindParams "max" ["key", "default"] 0 ⟨[], [(Str.ofString "default", d)]⟩ = pure [none, some d] from rfl) ?_)
  refine wpAny_bind (wpAny_pure ?_)
  refine wpAny_bind (iter_intList hl fun s2 e2 st hfp hlI => ?_)
  subst e2
  have W := (Walks.list (prog := prog) (w := w) (A := A.in1) hh s.heap.objs.size l hlI (intItems xs)).toS
  rw [sz] at W
  refine wpAny_bind (wpAny_newObj_type ?_)
  rw [nam]
  have S1 : (s.heap.push { cls := .type "list_iterator", data := .fields #[.ref l, .int 0 0] }).objs.size = s.heap.objs.size + 1 := Heap.size_push ..
  have hSf : (s.heap.push { cls := .type "list_iterator", data := .fields #[.ref l, .int 0 0] }).objs.size ∉ [s.heap.objs.size, l] := fun hm => Nat.lt_irrefl _ (hfp _ hm)
  have fin : ∀ (v : Value) (s' : Shared), (xs.size = 0 → v = d) → (xs.size = 1 → ∃ t, v = .int (numAt xs 0) t) →
      Moved ((s.heap.push { cls := .type "list_iterator", data := .fields #[.ref l, .int 0 0] }).objs.size :: [s.heap.objs.size]) (fun a b => b = a)
        { s with heap := (s.heap.push { cls := .type "list_iterator", data := .fields #[.ref l, .int 0 0] }).push { cls := .type "list", data := .seq #[] }, toks := s.toks } s' → Q v s' := fun v s' q0 q1 hm => by
    obtain ⟨h', g', d', tk', os'⟩ := s'
    have e1 : g' = s.gens := hm.gens
    have e2 : d' = s.drawn := hm.drawn
    have e3 : os' = s.os := hm.os
    subst e1 e2 e3
    refine h v h' tk' q0 q1 fun b o e => hm.heap b o (fun hb => ?_) (Heap.get?_push_of_some _ (Heap.get?_push_of_some _ e))
    have lt := Heap.lt_size e
    rcases List.mem_cons.mp hb with z | z
    · rw [z, S1] at lt; exact Nat.lt_irrefl _ (Nat.lt_of_succ_lt lt)
    · rw [List.mem_singleton.mp z] at lt; exact Nat.lt_irrefl _ lt
  refine wpAny_pure ⟨plainId_quiet PySem.F.plain_max_loop _, ?_⟩
  have st2 := W.frame 0 _ ((s.heap.push { cls := .type "list_iterator", data := .fields #[.ref l, .int 0 0] }).push { cls := .type "list", data := .seq #[] }) s.toks st (Nat.le_refl _) fun b _ o e => Heap.get?_push_of_some _ e
  have cases2 : xs.size = 0 ∨ xs.size = 1 := by omega
  rcases cases2 with z | z
  · rw [z] at W
    exact loop_none W _ hSf st2 (Heap.get?_push_size _ rfl) fun s' hm => fin d s' (fun _ => rfl) (fun y => absurd y (by omega)) hm
  · rw [z] at W
    refine loop_first W _ hSf st2 (Heap.get?_push_size _ rfl) fun v s' hP hm => fin v s' (fun y => absurd y (by omega)) (fun _ => ?_) hm
    exact intItems_at hP
end
end TX
section
variable {X : Cx}
/-- max(xs, default=n), xs a list of at most one int -/
def rMaxD (K : PySem.W.Frag) (n : Int) : List V → List V → Hp → (V → Hp → Prop) → Prop := fun vs zs G P => ∃ (a : Addr) (is : List Int), vs = [V.ref a] ∧ zs = [V.int n] ∧ SqL K G a (is.map V.int) ∧ is.length ≤ 1 ∧ P (.int (is.headD n)) G
theorem cr_maxD {n : Int} (calm : X.calm = true) : CallRK X (.builtin "max") [Str.ofString "default"] (rMaxD X.K n) := by
  intro pn st sg G vs zs us ws P J r rz hh
  obtain ⟨a, is, e1, e2, hs, few, qq⟩ := hh
  subst e1 e2
  obtain ⟨its, rv, hl, _⟩ := J.list hs
  rw [Vals.ref1 r]
  obtain ⟨w1, ew, er⟩ := vals1 rz
  subst ew
  obtain ⟨w0, t0⟩ : ∃ t, w1 = Value.int n t := er
  have hi := rv.ints
  obtain ⟨xs, ex⟩ := hi.allInts.items
  have hn : numsOf (intItems xs).toList = is := by rw [← ex]; exact hi.numsOf
  rw [nums_intItems] at hn
  have hl2 := hl.isList
  rw [ex] at hl2
  have ln : xs.size = is.length := by rw [← hn]; simp
  refine TX.max_dflt (J.ok.hd calm) hl2 (by omega) fun v h' tk q0 q1 kp => ?_
  cases is with
  | nil =>
    have := q0 (by rw [ln]; rfl)
    subst this
    subst t0
    exact ⟨.int _, G, J.kept kp, ⟨_, rfl⟩, qq⟩
  | cons i is =>
    have one : xs.size = 1 := by rw [List.length_cons] at few ln; omega
    obtain ⟨t, ev⟩ := q1 one
    subst ev
    have : numAt xs 0 = i := by
      rw [numAt_eq, hn]
      rfl
    rw [this]
    exact ⟨.int _, G, J.kept kp, ⟨_, rfl⟩, qq⟩
def vMaxD (n : Int) (t : TV) : TV := fun ρ Q => t ρ fun s => ∃ is : List Int, s.asL = some (is.map PyData.int) ∧ is.length ≤ 1 ∧ Q (.v (.int (is.headD n)))
theorem m_maxD {n : Int} {t : TV} {ρ : VL.Env} {Q : SV → Prop} : vMaxD n t ρ Q = t ρ fun s => ∃ is : List Int, s.asL = some (is.map PyData.int) ∧ is.length ≤ 1 ∧ Q (.v (.int (is.headD n))) := (Eq.refl _).trans (Eq.refl _)
theorem ve_maxD {n : Int} {κ1 : Nat} {e a : Expr} {t : TV} (h : ∀ te, PE X a te → PE X e (tCKw (rMaxD X.K n) (tCons te tNil) (tCons (tC (.int n)) tNil))) (ha : VE X a t κ1) : VE X e (vMaxD n t) κ1 := by
  obtain ⟨te, pe, g⟩ := ha
  refine ⟨_, h te pe, fun B F H σ ρ Q R er bq t k => ?_⟩
  refine g B F H σ ρ _ _ er (by omega) t fun s u F1 H1 cq ⟨is, e1, hl, q⟩ x => ?_
  obtain ⟨p, xs, e2, sq, r⟩ := asL_sq x.sr e1
  subst e2
  have e3 := data_ints r
  subst e3
  exact ⟨p, is, rfl, rfl, sq, hl, k _ _ _ _ (by omega) q ((PRes.same x.dm (.int _)).res x.toExt fun _ _ z => nomatch z)⟩
end
/-! ### <= of texts, too -/
section
variable {X : Cx} {K : PySem.W.Frag}
def rLeS : R2 := fun x y G Q => ∃ i j : Str, x = .str i ∧ y = .str j ∧ Q (.bl (!decide (j.cps.toList < i.cps.toList))) G
theorem op_leS : OpR X (compareOp .LtE) rLeS := by
  intro pn st sg G x y v u Q J rx ry hh
  obtain ⟨i, j, e1, e2, q⟩ := hh
  subst e1 e2
  obtain ⟨t, e3⟩ := rx
  obtain ⟨t', e4⟩ := ry
  subst e3 e4
  exact PySem.P.le_str (fin_bl J q rfl)
abbrev rLeAll : R2 := r2or (rI0 fun i j => .bl (decide (i ≤ j))) rLeS
theorem op_leAll : OpR X (compareOp .LtE) rLeAll := op_le.or op_leS
def fLeD : FB := fun a b Q => match a, b with
  | .v (.int i), .v (.int j) => Q (.v (.bool (decide (i ≤ j))))
  | .v (.str i), .v (.str j) => Q (.v (.bool (!decide (j.cps.toList < i.cps.toList))))
  | _, _ => False
theorem m_leI {i j : Int} {Q : SV → Prop} : fLeD (.v (.int i)) (.v (.int j)) Q = Q (.v (.bool (decide (i ≤ j)))) := (Eq.refl _).trans (Eq.refl _)
theorem m_leS {i j : Str} {Q : SV → Prop} : fLeD (.v (.str i)) (.v (.str j)) Q = Q (.v (.bool (!decide (j.cps.toList < i.cps.toList)))) := (Eq.refl _).trans (Eq.refl _)
theorem ops_leD : OpS K rLeAll fLeD := by
  intro F H u w a b Q R fo ra rb q k
  unfold fLeD at q
  split at q
  · rw [int_of ra, int_of rb]
    exact .inl ⟨_, _, rfl, rfl, k _ _ F H q (fun _ _ z => nomatch z) (.same fo (.bl _))⟩
  · rw [str_of ra, str_of rb]
    exact .inr ⟨_, _, rfl, rfl, k _ _ F H q (fun _ _ z => nomatch z) (.same fo (.bl _))⟩
  · exact q.elim
end
end VL
namespace VL
open PySem PySem.Spec PyProof.Rows L2 VG
section
variable {X : Cx} {i : Nat}
/-- feed[j], j one of 1, 2, 3: any int -/
def vTapI (i j : Nat) : TV := fun ρ Q => ∃ (a : Addr) (ns : List Int), ρ[i]? = some (.cell a ⟨true, ns⟩) ∧ ∀ x : Int, (j = 3 → 0 ≤ x ∧ x ≤ 1099511627776) → Q (.v (.int x))
theorem ve_tapI {e c : Expr} {pos : Pos} {j : Nat} (hj : j = 1 ∨ j = 2 ∨ j = 3) (he : PE X e (tVar i)) (hc : PE X c (tC (.int (j : Nat)))) (hp : PlainIx c) : VE X (.Subscript e c pos) (vTapI i j) 0 := by
  refine ⟨_, pe_ix ix_seq he hc hp, fun B F H σ ρ Q R er bq ⟨a, ns, e, q⟩ k => ?_⟩
  obtain ⟨h1, c⟩ := er.cellAt e
  obtain ⟨nf, c', x1, x2, x3, e1, e2, e3, cb⟩ := id c
  have hL : LIM = 1099511627776 := rfl
  have cb3 := cb rfl
  rcases hj with rfl | rfl | rfl
  · exact ⟨.ref a, h1, .inl ⟨a, _, (1 : Nat), .int x1, rfl, rfl, SqL.of e1, rfl, k _ _ F H (by omega) (q x1 (fun z => by omega)) ⟨er.refl, .int _, trivial⟩⟩⟩
  · exact ⟨.ref a, h1, .inl ⟨a, _, (2 : Nat), .int x2, rfl, rfl, SqL.of e1, rfl, k _ _ F H (by omega) (q x2 (fun z => by omega)) ⟨er.refl, .int _, trivial⟩⟩⟩
  · exact ⟨.ref a, h1, .inl ⟨a, _, (3 : Nat), .int x3, rfl, rfl, SqL.of e1, rfl, k _ _ F H (by omega) (q x3 (fun _ => by omega)) ⟨er.refl, .int _, trivial⟩⟩⟩
/-- feed[0]: the list of ints -/
def vTapL (i : Nat) : TV := fun ρ Q => ∃ (a : Addr) (ns : List Int), ρ[i]? = some (.cell a ⟨true, ns⟩) ∧ Q (.v (.list (ns.map .int)))
theorem ve_tapL {e c : Expr} {pos : Pos} (he : PE X e (tVar i)) (hc : PE X c (tC (.int (0 : Nat)))) (hp : PlainIx c) : VE X (.Subscript e c pos) (vTapL i) 0 := by
  refine ⟨_, pe_ix ix_seq he hc hp, fun B F H σ ρ Q R er bq ⟨a, ns, e, q⟩ k => ?_⟩
  obtain ⟨h1, c⟩ := er.cellAt e
  obtain ⟨nf, c', x1, x2, x3, e1, e2, e3, cb⟩ := id c
  exact ⟨.ref a, h1, .inl ⟨a, _, (0 : Nat), .ref c', rfl, rfl, SqL.of e1, rfl, k _ _ F H (by omega) q ⟨er.refl, .lst e2 e3 (RA.ints ns), trivial⟩⟩⟩
/-- feed[3] = feed[3] + 1 -/
def vTapInc (i : Nat) : TVS := fun E ρ => ∃ (a : Addr) (ns : List Int), ρ[i]? = some (.cell a ⟨true, ns⟩) ∧ E.nx ρ
theorem vs_tapInc {st : Stmt} {te : TE} (h : PS X st (sLPut (tVar i) (tC (.int (3 : Nat))) te)) (hf : te = tOp (rI0 fun i j => .int (i + j)) (tOp (rIx X.K) (tVar i) (tC (.int (3 : Nat)))) (tC (.int 1))) : VS X st (vTapInc i) 1 := by
  subst hf
  refine ⟨_, h, fun B F H σ ρ E D er bq ⟨a, ns, e, t⟩ k => ?_⟩
  obtain ⟨h1, c⟩ := er.cellAt e
  obtain ⟨nf, c', a1, a2, a3, e1, e2, e3, cb⟩ := id c
  have hL : LIM = 1099511627776 := rfl
  obtain ⟨n0, n1⟩ := cb rfl
  refine ⟨.ref a, h1, .inl ⟨a, _, (3 : Nat), .int a3, rfl, rfl, SqL.of e1, rfl, ⟨a3, 1, rfl, rfl, ?_⟩⟩⟩
  refine ⟨.ref a, h1, a, _, 3, rfl, e1, rfl, by show 3 < 4; decide, ?_⟩
  exact k.nx ⟨F.fr, F.ck + 1⟩ _ σ ρ (by show F.ck + 1 ≤ _; omega) (er.step (Ext.cellw er e e2 e3 (j := a1) (l := a2) (n := a3 + 1) 1 fun _ => ⟨by omega, by omega⟩)) t
theorem s_tapI {j : Nat} {ρ : VL.Env} {Q : SV → Prop} : vTapI i j ρ Q = ∃ (a : Addr) (ns : List Int), ρ[i]? = some (.cell a ⟨true, ns⟩) ∧ ∀ x : Int, (j = 3 → 0 ≤ x ∧ x ≤ 1099511627776) → Q (.v (.int x)) := rfl
theorem s_tapL {ρ : VL.Env} {Q : SV → Prop} : vTapL i ρ Q = ∃ (a : Addr) (ns : List Int), ρ[i]? = some (.cell a ⟨true, ns⟩) ∧ Q (.v (.list (ns.map .int))) := rfl
theorem s_tapInc {E : VEnds} {ρ : VL.Env} : vTapInc i E ρ = ∃ (a : Addr) (ns : List Int), ρ[i]? = some (.cell a ⟨true, ns⟩) ∧ E.nx ρ := rfl
end
end VL
namespace VL
open PySem PySem.Spec PyProof.Rows L2 VG

/-- the object of a new set -/
abbrev voidSet (w : World) : Obj := { cls := Value.type "set", data := Data.set #[] 0 (SetTable.fresh 0 0 !w.params.followText "set-order") }
/-- a set by comprehension: o0 the void set, r what set.add does -/
def tScG (o0 : Addr → HO) (r : V → List V → Hp → L2.VK → Prop) (wi : TI) (g : TG) (tt : TT) (te : TE) (vs : List Nat) : TE := fun σ H Q =>
  wi σ H fun J H1 => ∀ D : Addr, H1 D = none → ∃ W : Nat → Nat → Hp → Prop, (∃ m, W 0 m (upd H1 D (o0 D))) ∧
    ∀ (i m : Nat) (G : Hp), W i m G → (J.stop i G ∧ Q (.ref D) G) ∨ (J.go i G ∧ ∃ Nx : Hp → Prop, (∀ G', Nx G' → ∃ m', m' < m ∧ W (i + 1) m' G') ∧
      ∀ (x : V) (G' : Hp), J.yld i G x G' → g x (wipe σ vs) G' fun σ2 H2 => wipe σ2 vs = wipe σ vs ∧ tt σ2 H2 fun b H3 =>
        if b = true then te σ2 H3 fun y H4 => r (.ref D) [y] H4 fun _ H5 => Nx H5 else Nx H3)
section
variable {X : Cx} {elt tg iter : Expr} {ifs : List Expr} {scope : Scope} {own : List (Str × Nat)} {pos : Pos} {wi : TI} {g : TG} {tt : TT} {te : TE} {o0 : Addr → HO} {r : V → List V → Hp → L2.VK → Prop}
theorem scG_core {pins : List (Addr × Obj)} {s : Shared} {σ : L2.St} {H : Hp} {Q : L2.VK} {pos' : Pos} {use : Option (Value → Sem Unit)} {Qf : Value → Shared → Prop}
    (h0 : ∀ (G : Hp) (h : Heap), ObjOk X.prog X.w (upd G h.objs.size (o0 h.objs.size)) (h.push (voidSet X.w)) h.objs.size (o0 h.objs.size))
    (hr : ∀ (s : Shared) (G : Hp) (ce : PySem.Env) (fp : List Addr), MtR (X.blk s G scope ce fp) "set.add" r)
    (hc : X.calm = true) (hN : X.N.Nodup) (I : L2.Inv X pins σ H s) (hi : PI X tg iter wi) (ok : BlkOk X.N X.env.scope scope own)
    (hg : ∀ (s : Shared) (G : Hp) (C : Addr) (cl : List (Str × Addr)) (fp : List Addr), PG (X.blk s G scope (compEnvC scope cl C X.env) fp) tg g)
    (ht : ∀ (s : Shared) (G : Hp) (C : Addr) (cl : List (Str × Addr)) (fp : List Addr), PTs (X.blk s G scope (compEnvC scope cl C X.env) fp) ifs tt)
    (he : ∀ (s : Shared) (G : Hp) (C : Addr) (cl : List (Str × Addr)) (fp : List Addr), PE (X.blk s G scope (compEnvC scope cl C X.env) fp) elt te)
    (hs : ∀ x : Value, foldedSetIterable iter X.env x = pure x) (h : tScG o0 r wi g tt te (own.map (·.2)) σ H Q)
    (fin : ∀ (D C : Addr) (s' : Shared) (m : Str → Option Value) (G : Hp), L2.Inv X pins σ G s' → Q (.ref D) G → s'.heap.Ns C m → FpOk X pins G C →
      compPost (model X.prog X.w) X.A X.xe use Qf (.ref D) C (.ok .next) s') :
    wpAny (model X.prog X.w) X.A (comprehension (.SetComp elt [⟨tg, iter, ifs, 0⟩] scope pos) scope X.env pos' (newSet (.type "set")) false (eval iter X.env) use) Qf X.xe s := by
  have free := fun y hy e => (ok.free y hy e).elim (fun k => I.ok.has y.1 (.inl k)) fun k => I.ok.has y.1 (.inr k)
  refine wpAny_comprehension_free rfl hs (closure_ok free) ok.kind (fun y hy e => by rw [ok.uniq y hy, e]) ?_
  refine thn (hi.run pins s σ H _ I h) fun xv s1 hx => thn hx fun itv s2 h2 => ?_
  obtain ⟨it, fp, tn, J, H2, e, I2, T, st2, f2, q⟩ := h2
  subst e
  refine PpSet.newSet_ok (newEnv_comp ?_)
  have dn := HOk.fresh I2.hok (Nat.le_refl s2.heap.objs.size)
  obtain ⟨W, ⟨m0, w0⟩, turn⟩ := q s2.heap.objs.size dn
  have I3 : L2.Inv X pins σ (upd H2 s2.heap.objs.size (o0 s2.heap.objs.size)) { heap := s2.heap.push (voidSet X.w), gens := s2.gens, drawn := s2.drawn, toks := s2.toks, os := s2.os } :=
    I2.laid (fun b o e => Heap.get?_push_of_some _ e) (Nat.le_refl _) (h0 _ _)
  have sz : ∀ b ∈ fp, b < s2.heap.objs.size := fun b hb => by
    obtain ⟨o, e, _⟩ := T.obj 0 s2.heap st2 b hb
    exact Heap.lt_size e
  generalize hS : ({ heap := s2.heap.push (voidSet X.w), gens := s2.gens, drawn := s2.drawn, toks := s2.toks, os := s2.os } : Shared) = S3 at I3 ⊢
  have hS' : S3.heap = s2.heap.push (voidSet X.w) := by rw [← hS]
  generalize hH : upd H2 s2.heap.objs.size (o0 s2.heap.objs.size) = H3 at I3 w0 ⊢
  have f3 : ∀ b ∈ fp, FpOk X pins H3 b ∧ b < S3.heap.objs.size := fun b hb => by
    have lt := sz b hb
    refine ⟨⟨?_, (f2 b hb).2⟩, by rw [hS', Heap.size_push]; exact Nat.lt_succ_of_lt lt⟩
    rw [← hH, upd_ne (Nat.ne_of_lt lt)]
    exact (f2 b hb).1
  have st3 : tn 0 S3.heap := T.keep 0 s2.heap S3.heap st2 fun b _ o e => by rw [hS']; exact Heap.get?_push_of_some _ e
  have I4 := block_start I3 ok hN f3
  obtain ⟨CL, hC⟩ : ∃ CL, CL = cellsFrom (S3.heap.objs.size + 1) scope.names (cloFrom X.env.cells scope.names []) := ⟨_, rfl⟩
  rw [← hC] at I4
  obtain ⟨ce, hE⟩ : ∃ ce, ce = compEnvC scope CL S3.heap.objs.size X.env := ⟨_, rfl⟩
  suffices go : codeAny (model X.prog X.w) X.A (Code.compStart (.SetComp elt [⟨tg, iter, ifs, 0⟩] scope pos) 0 (.ref it) (.ref s2.heap.objs.size) ce) (compPost (model X.prog X.w) X.A X.xe use Qf (.ref s2.heap.objs.size) S3.heap.objs.size)
      { heap := pushCells (S3.heap.push { cls := Value.type "dict", data := Data.dict #[] }) scope.names, gens := S3.gens, drawn := S3.drawn, toks := S3.toks, os := S3.os } by
    rw [hE, hC] at go
    exact go
  have pg := hg S3 H3 S3.heap.objs.size CL fp
  have pt := ht S3 H3 S3.heap.objs.size CL fp
  have pe := he S3 H3 S3.heap.objs.size CL fp
  have hr := hr S3 H3 (compEnvC scope CL S3.heap.objs.size X.env) fp
  have eL : S3.heap.objs.size = (X.blk S3 H3 scope (compEnvC scope CL S3.heap.objs.size X.env) fp).env.locals := rfl
  rw [← hE] at I4 pg pt pe hr eL
  have st4 := T.keep 0 S3.heap (pushCells (S3.heap.push { cls := Value.type "dict", data := Data.dict #[] }) scope.names) st3 fun b _ o e => pushCells_keeps scope.names _ b o (Heap.get?_push_of_some _ e)
  have stat : ∀ {σ' : L2.St} {G : Hp} {s' : Shared}, L2.Inv (X.blk S3 H3 scope ce fp) [] σ' G s' → (∀ b ∈ fp, G b = none) → ∀ b ∈ fp, FpOk (X.blk S3 H3 scope ce fp) [] G b := fun I' hn b hb =>
    ⟨hn b hb, (I'.ok.exf b hb).1, I'.ok.exfs b hb, .inl hb, fun x c e => (I'.ok.exf b hb).2 x c e, fun p hp => by cases hp⟩
  have nfp : ∀ b ∈ fp, H3 b = none := fun b hb => (f3 b hb).1.1
  have loop : codeAny (model X.prog X.w) X.A (Code.compLoop (.SetComp elt [⟨tg, iter, ifs, 0⟩] scope pos) 0 (.ref it) (.ref s2.heap.objs.size) ce) (compPost (model X.prog X.w) X.A X.xe use Qf (.ref s2.heap.objs.size) S3.heap.objs.size)
      { heap := pushCells (S3.heap.push { cls := Value.type "dict", data := Data.dict #[] }) scope.names, gens := S3.gens, drawn := S3.drawn, toks := S3.toks, os := S3.os } := by
    refine PpSet.compLoopS_any (fun n s' => ∃ i G, L2.Inv (X.blk S3 H3 scope ce fp) [] (wipe σ (own.map (·.2))) G s' ∧ tn i s'.heap ∧ (∀ b ∈ fp, G b = none) ∧ W i n G) ?_ m0 ⟨0, H3, I4, st4, nfp, w0⟩
    rintro n s5 ⟨i, H5, I5, st5, n5, w5⟩
    rcases turn i n H5 w5 with ⟨stop, qq⟩ | ⟨go, Nx, hNx, step⟩
    · have td := T.done (X.blk S3 H3 scope ce fp) rfl rfl rfl hc i [] s5 (wipe σ (own.map (·.2))) H5 (fun _ _ => False) I5 (stat I5 n5) st5 stop
      refine thnF td fun r6 s6 h6 => ?_
      obtain ⟨e6, I6⟩ := h6
      subst e6
      have I7 := Inv.call' I3 I6.os I6.base I6.hok I6.bare fun b hb => ⟨(f3 b hb).1.2.2.2.1, (f3 b hb).1.2.1, (f3 b hb).1.2.2.2.2.1, (f3 b hb).1.2.2.2.2.2⟩
      have nC : H5 S3.heap.objs.size = none := by have z := I6.free; rw [eL]; exact z
      obtain ⟨m, hn, _⟩ := I6.loc
      have hn : s6.heap.Ns S3.heap.objs.size m := by rw [eL]; exact hn
      exact fin s2.heap.objs.size S3.heap.objs.size s6 m H5 I7 qq hn (Inv.fpOk I3 (Nat.le_refl _) nC)
    · have ti := T.item (X.blk S3 H3 scope ce fp) rfl rfl rfl hc i [] s5 (wipe σ (own.map (·.2))) H5 (fun _ _ => False) I5 (stat I5 n5) st5 go
      refine thnF ti fun r6 s6 h6 => ?_
      obtain ⟨u, e6, h6⟩ := h6
      subst e6
      refine thnF h6 fun _ s7 h7 => ?_
      obtain ⟨x, H7, I7, r7, y7, st7, n7⟩ := h7
      have P7 := Inv.pinned I7 (stat I7 n7) (T.obj (i + 1) s7.heap st7)
      refine thnF (pg.run ([] ++ pinsAt fp s7.heap) s7 _ H7 x u _ P7 r7 (step x H7 y7)) fun _ s8 h8 => ?_
      obtain ⟨σ8, H8, I8, hw8, q8⟩ := h8
      refine thnF (pt.run ([] ++ pinsAt fp s7.heap) s8 σ8 H8 _ I8 q8) fun b s9 h9 => ?_
      obtain ⟨H9, I9, q9⟩ := h9
      have next : ∀ {s' : Shared} {G : Hp}, L2.Inv (X.blk S3 H3 scope ce fp) ([] ++ pinsAt fp s7.heap) σ8 G s' → Nx G → ∃ m', m' < n ∧ ∃ i G, L2.Inv (X.blk S3 H3 scope ce fp) [] (wipe σ (own.map (·.2))) G s' ∧ tn i s'.heap ∧ (∀ b ∈ fp, G b = none) ∧ W i m' G := fun {s' G} I' nx => by
        obtain ⟨m', hm, w'⟩ := hNx G nx
        have pin : ∀ b ∈ fp, ∀ o, s7.heap.get? b = some o → s'.heap.get? b = some o ∧ G b = none := fun b hb o e =>
          have z := I'.pin (b, o) (List.mem_append_right _ (List.mem_append_right _ (mem_pinsAt hb e)))
          ⟨z.1, z.2.1⟩
        have hl : (wipe σ (own.map (·.2))).length = σ8.length := by rw [← hw8, wipe_length]
        refine ⟨m', hm, i + 1, G, Inv.weak (Inv.unpinned I') hl (fun j v e => (wipe_some (by rw [hw8]; exact e)).1), T.keep (i + 1) s7.heap s'.heap st7 fun b hb o e => (pin b hb o e).1, fun b hb => ?_, w'⟩
        obtain ⟨o, e, _⟩ := T.obj (i + 1) s7.heap st7 b hb
        exact (pin b hb o e).2
      cases b with
      | false =>
        simp only [Bool.false_eq_true, if_false] at q9 ⊢
        exact next I9 q9
      | true =>
        simp only [if_true] at q9 ⊢
        refine thnF (pe.run ([] ++ pinsAt fp s7.heap) s9 σ8 H9 _ I9 q9) fun z s10 h10 => ?_
        obtain ⟨y, H10, I10, r10, q10⟩ := h10
        refine thnF (hr _ s10 σ8 H10 (.ref s2.heap.objs.size) [y] (.ref s2.heap.objs.size) [z] _ I10 rfl (.cons r10 .nil) q10) fun v s11 h11 => ?_
        obtain ⟨v', H11, I11, _, nx⟩ := h11
        exact next I11 nx
  exact PpSet.codeAny_compStart_set loop (T.self X.A 0 _ _ _ st4 loop)
theorem pe_scG (h0 : ∀ (G : Hp) (h : Heap), ObjOk X.prog X.w (upd G h.objs.size (o0 h.objs.size)) (h.push (voidSet X.w)) h.objs.size (o0 h.objs.size))
    (hr : ∀ (s : Shared) (G : Hp) (ce : PySem.Env) (fp : List Addr), MtR (X.blk s G scope ce fp) "set.add" r)
    (hc : X.calm = true) (hN : X.N.Nodup) (hi : PI X tg iter wi) (ok : BlkOk X.N X.env.scope scope own)
    (hg : ∀ (s : Shared) (G : Hp) (C : Addr) (cl : List (Str × Addr)) (fp : List Addr), PG (X.blk s G scope (compEnvC scope cl C X.env) fp) tg g)
    (ht : ∀ (s : Shared) (G : Hp) (C : Addr) (cl : List (Str × Addr)) (fp : List Addr), PTs (X.blk s G scope (compEnvC scope cl C X.env) fp) ifs tt)
    (he : ∀ (s : Shared) (G : Hp) (C : Addr) (cl : List (Str × Addr)) (fp : List Addr), PE (X.blk s G scope (compEnvC scope cl C X.env) fp) elt te)
    (hs : ∀ x : Value, foldedSetIterable iter X.env x = pure x := by first | exact fun _ => rfl | (intro x; rfl)) :
    PE X (.SetComp elt [⟨tg, iter, ifs, 0⟩] scope pos) (tScG o0 r wi g tt te (own.map (·.2))) where
  run pins s σ H Q I h := by
    rw [PpSet.eval_SetComp]
    refine scG_core h0 hr hc hN I hi ok hg ht he hs h fun D C s' m G I' q hn f => ⟨m, hn, fun h2 sb => ?_⟩
    exact ⟨.ref D, G, I'.turned (fun b o hb e => (sb.right b hb).trans e) f.1 f.2.1 f.2.2.2.1 f.2.2.2.2.1 f.2.2.2.2.2, rfl, q⟩
/-- a set of ints by comprehension -/
abbrev tScI (w : World) (wi : TI) (g : TG) (tt : TT) (te : TE) (vs : List Nat) : TE := tScG (fun D => SetO w D (fun _ => false) 0) (rSAdd w) wi g tt te vs
theorem pe_scI (hc : X.calm = true) (hN : X.N.Nodup) (hi : PI X tg iter wi) (ok : BlkOk X.N X.env.scope scope own)
    (hg : ∀ (s : Shared) (G : Hp) (C : Addr) (cl : List (Str × Addr)) (fp : List Addr), PG (X.blk s G scope (compEnvC scope cl C X.env) fp) tg g)
    (ht : ∀ (s : Shared) (G : Hp) (C : Addr) (cl : List (Str × Addr)) (fp : List Addr), PTs (X.blk s G scope (compEnvC scope cl C X.env) fp) ifs tt)
    (he : ∀ (s : Shared) (G : Hp) (C : Addr) (cl : List (Str × Addr)) (fp : List Addr), PE (X.blk s G scope (compEnvC scope cl C X.env) fp) elt te)
    (hs : ∀ x : Value, foldedSetIterable iter X.env x = pure x := by first | exact fun _ => rfl | (intro x; rfl)) :
    PE X (.SetComp elt [⟨tg, iter, ifs, 0⟩] scope pos) (tScI X.w wi g tt te (own.map (·.2))) :=
  pe_scG (fun _ _ => setO_new (setR_fresh X.w)) (fun _ _ _ _ => mt_sadd) hc hN hi ok hg ht he hs
end
theorem CI.mutO {F : FS} {H : Hp} {a p : Addr} {ns : Cel} {o : HO} (c : CI F H a ns) (n1 : a ≠ p) (nf : ¬ F p) : CI F (upd H p o) a ns := by
  obtain ⟨nf', c', j, l, n, e1, e2, e3, cb⟩ := c
  exact ⟨nf', c', j, l, n, by rw [upd_ne n1]; exact e1, e2, by rw [upd_ne (fun z => nf (by rw [← z]; exact e2))]; exact e3, cb⟩
/-- only ints -/
def vIntV (t : TV) : TV := fun ρ Q => t ρ fun s => ∃ z : Int, s = .v (.int z) ∧ Q (.v (.int z))
structure IsSortedD (acc : List PyData) (ms : List Int) : Prop where
  ri : ms.Pairwise (· < ·)
  mem : ∀ k, k ∈ ms ↔ PyData.int k ∈ acc
/-- sorted({.. for ..}), ints -/
def vSortSc (it : TVl) (g : TGt) (c : TVb) (t : TV) (vs : List Nat) : TV := fun ρ Q => it ρ fun ds => ds.length < 64 ∧ cLoop g c (vIntV t) (wipeV ρ vs) ds [] fun acc => ∀ ms : List Int, IsSortedD acc ms → Q (.own (ms.map .int))
section
variable {X : Cx} {scope : Scope} {tg iter elt e : Expr} {ifs : List Expr} {is vs : List Nat} {it : TVl} {g : TGt} {c : TVb} {t : TV}
theorem sc_go {w : Bool} {κ1 κ2 κ3 : Nat} (hi : VI w X tg iter it κ1) (his : ∀ i ∈ is, i ∈ vs) (h0 : κ2 + κ3 = 0) :
    ∃ wi, PI X tg iter wi ∧ RE X (vSortSc it g c t vs) κ1 (tCB (rSortedSet X.w) (tCons (tScI X.w wi (canG w X.K is g) (canT X.K c κ2) (canE X.K t κ3) vs) tNil)) := by
  obtain ⟨rfl, rfl⟩ : κ2 = 0 ∧ κ3 = 0 := ⟨by omega, by omega⟩
  obtain ⟨wi, pi, gi⟩ := hi
  refine ⟨wi, pi, fun B F H σ ρ Q R er bq q k => ?_⟩
  refine gi B F H σ ρ _ _ er (by omega) q fun ds J F1 H1 cq q1 x wk D hD => ?_
  obtain ⟨okd, q1⟩ := q1
  have hD0 : H D = none := by
    by_cases z : H D = none
    · exact z
    · exact absurd hD (x.st.ex D z)
  have er1 := er.step x
  have nf1 : ¬ F1 D := fun z => by
    obtain ⟨xs, e, _⟩ := x.dm D z
    rw [hD] at e; cases e
  let In (acc : List PyData) : Int → Bool := fun j => acc.any fun d => match d with
    | .int i => decide (j = i)
    | _ => false
  have fin_ : ∀ acc : List PyData, (∀ d ∈ acc, ∃ z : Int, d = .int z) → ∀ j, In acc j = true ↔ PyData.int j ∈ acc := fun acc ha j => by
    show (acc.any _) = true ↔ _
    rw [List.any_eq_true]
    constructor
    · rintro ⟨d, hd, e⟩
      obtain ⟨z, rfl⟩ := ha d hd
      simp only [decide_eq_true_eq] at e
      rw [e]; exact hd
    · exact fun h => ⟨_, h, by simp⟩
  refine ⟨fun i m H' => m = ds.length - i ∧ i ≤ ds.length ∧ ∃ (F' : FS) (n : Nat) (acc : List PyData), F'.ck ≤ F1.ck ∧ Ext ρ F1 H1 F' H' ∧ H' D = some (SetO X.w D (In acc) n) ∧ n ≤ i ∧ (∀ d ∈ acc, ∃ z : Int, d = .int z) ∧ ¬ F' D ∧
      cLoop g c (vIntV t) (wipeV ρ vs) (ds.drop i) acc fun acc => ∀ ms : List Int, IsSortedD acc ms → Q (.own (ms.map .int)),
    ⟨_, rfl, Nat.zero_le _, F1, 0, [], Nat.le_refl _, er1.refl.pure (Stp.new hD) (x.dm.new hD), upd_same, Nat.le_refl _, fun _ h => (nomatch h), nf1, q1⟩, ?_⟩
  rintro i m H' ⟨rfl, hi, F', n, acc, ce, x', hD', hn', hacc, nf', q'⟩
  have fm : FM F1 F' H1 H' := x'.st.toFM
  by_cases hlt : i < ds.length
  · refine .inr ⟨wk.go i F' H' fm x'.dm hlt, fun H3 => ∃ (F3 : FS) (n : Nat) (acc : List PyData), F3.ck ≤ F1.ck ∧ Ext ρ F1 H1 F3 H3 ∧ H3 D = some (SetO X.w D (In acc) n) ∧ n ≤ i + 1 ∧ (∀ d ∈ acc, ∃ z : Int, d = .int z) ∧ ¬ F3 D ∧
        cLoop g c (vIntV t) (wipeV ρ vs) (ds.drop (i + 1)) acc fun acc => ∀ ms : List Int, IsSortedD acc ms → Q (.own (ms.map .int)),
      fun H3 z => ⟨ds.length - (i + 1), by omega, rfl, hlt, z⟩, fun y H2 hy => ?_⟩
    have hd : ds[i]? = some (ds[i]'hlt) := List.getElem?_eq_getElem hlt
    obtain ⟨F2, c2, st, dm, r⟩ := wk.yld i F' H' y H2 _ fm x'.dm hd hy
    have x2 : Ext ρ F1 H1 F2 H2 := x'.pure st dm
    have keepD : ∀ {F4 : FS} {H4 : Hp} {F5 : FS} {H5 : Hp} {ρ4 : Env} {o : HO}, Ext ρ4 F4 H4 F5 H5 → CSub ρ4 ρ → H4 D = some o → (∀ ws, o ≠ .tup ws) → ¬ F4 D → H5 D = some o ∧ ¬ F5 D := by
      intro F4 H4 F5 H5 ρ4 o x4 cs e4 nt n4
      refine ⟨x4.st.kp _ _ e4 fun c => x.cp D (csub_cells cs c) hD0, fun z => (x4.st.nw D z).elim n4 fun z => ?_⟩
      rw [z] at e4; cases e4
    have hD2 : H2 D = some (SetO X.w D (In acc) n) := st.kp _ _ hD' (fun z => z)
    have nf2 : ¬ F2 D := fun z => (st.nw D z).elim nf' fun z => by rw [z] at hD'; cases hD'
    rw [List.drop_eq_getElem_cons hlt] at q'
    have erw := (er1.step x2).wipe vs
    refine ⟨B, F2, wipeV ρ vs, _, _, erw, r, q', fun σ3 ρ3 er3 w3 q3 => ⟨?_, ?_⟩⟩
    · have w4 := w3.1 vs his
      have : ∀ vs' : List Nat, wipe (wipe σ vs') vs' = wipe σ vs' := fun vs' => by
        apply List.ext_getElem?
        intro j
        by_cases hj : j ∈ vs'
        · have no : ∀ τ : Hs, (wipe τ vs')[j]? = (if j < τ.length then some none else none) := fun τ => by
            by_cases hl : j < τ.length
            · rcases e1 : (wipe τ vs')[j]? with _ | o
              · rw [List.getElem?_eq_none_iff, wipe_length] at e1; omega
              · cases o with
                | none => simp [hl]
                | some v => exact absurd hj (wipe_some e1).2
            · rw [List.getElem?_eq_none_iff.mpr (by rw [wipe_length]; omega)]; simp [hl]
          rw [no, no, wipe_length]
        · rw [wipe_out hj]
      rw [w4, this]
    · refine ⟨B, F2, ρ3, _, er3, by omega, q3, fun b F4 H4 c4 q4 x4 => ?_⟩
      have cs3 : CSub ρ3 ρ := w3.2.trans csub_wipe
      obtain ⟨d4, n4⟩ := keepD x4 cs3 hD2 nofun nf2
      have x4' := x2.sub x4 cs3
      cases b with
      | false => exact ⟨F4, n, acc, by omega, x4', d4, by omega, hacc, n4, q4⟩
      | true =>
        refine ⟨B, F4, ρ3, _, er3.step x4, by omega, q4, fun s u F5 H5 c5 ⟨z, e5, z', e5', hz, q5⟩ x5 => ?_⟩
        subst e5
        obtain ⟨d5, n5⟩ := keepD x5.toExt cs3 d4 nofun n4
        have x7 := x4'.sub x5.toExt cs3
        have eu : u = V.int z := by cases x5.sr; rfl
        have ez : z' = .int z := by simpa using e5'.symm
        subst eu ez
        have eIn : (fun j => In acc j || decide (j = z)) = In (acc ++ [.int z]) := by
          funext j
          show _ = (acc ++ [PyData.int z]).any _
          rw [List.any_append]
          simp [In]
        refine ⟨D, z, In acc, n, rfl, rfl, d5, by have : scanBound = 4096 := rfl; omega, ?_⟩
        rw [eIn]
        refine ⟨F5, _, acc ++ [.int z], by omega, ⟨x7.st.mut hD, ?_, fun j a ns ej => (x7.cl j a ns ej).mutO (fun y => x7.cp a ⟨j, ns, ej⟩ (by rw [y]; exact hD)) n5, x7.cp⟩, upd_same, by split <;> omega, fun d hd => ?_, n5, q5⟩
        · intro a f
          obtain ⟨ws, e, l⟩ := x7.dm a f
          exact ⟨ws, by rw [upd_ne (fun y => n5 (by rw [← y]; exact f))]; exact e, l⟩
        · rcases List.mem_append.mp hd with hd | hd
          · exact hacc d hd
          · exact ⟨z, List.mem_singleton.mp hd⟩
  · have e : i = ds.length := by omega
    subst e
    rw [List.drop_length] at q'
    refine .inl ⟨wk.stop F' H' fm x'.dm, D, In acc, n, rfl, hD', by omega, fun ms l ri mem hn hl2 => ?_⟩
    have x9 : Ext ρ F H F' H' := x.trans x'
    exact k _ _ _ _ (by omega) (q' ms ⟨ri, fun j => (mem j).trans (fin_ acc hacc j)⟩) ((PRes.newL (us := ms.map V.int) x9.dm hl2 (RA.ints ms)).res x9 fun _ _ z => nomatch z)
theorem ve_sortSc {w : Bool} {κ1 κ2 κ3 : Nat} (h : ∀ wi gt tt te, PI X tg iter wi → Bk X scope (PG · tg gt) → Bk X scope (PTs · ifs tt) → Bk X scope (PE · elt te) → PE X e (tCB (rSortedSet X.w) (tCons (tScI X.w wi gt tt te vs) tNil)))
    (hi : VI w X tg iter it κ1) (hg : Bk X scope (VTg w · is tg g)) (hc : Bk X scope (VTs · ifs c κ2)) (he : Bk X scope (VE · elt t κ3)) (his : ∀ i ∈ is, i ∈ vs) (h0 : κ2 + κ3 = 0 := by omega) : VE X e (vSortSc it g c t vs) κ1 := by
  obtain ⟨wi, pi, gi⟩ := sc_go (g := g) (c := c) (t := t) hi his h0
  exact ⟨_, h wi (canG w X.K is g) (canT X.K c κ2) (canE X.K t κ3) pi (fun s H C cl fp => (hg s H C cl fp).can) (fun s H C cl fp => (hc s H C cl fp).can) (fun s H C cl fp => (he s H C cl fp).can), gi⟩
theorem m_sortSc {ρ : VL.Env} {Q : SV → Prop} : vSortSc it g c t vs ρ Q = it ρ fun ds => ds.length < 64 ∧ cLoop g c (vIntV t) (wipeV ρ vs) ds [] fun acc => ∀ ms : List Int, IsSortedD acc ms → Q (.own (ms.map .int)) := (Eq.refl _).trans (Eq.refl _)
theorem m_intV {ρ : VL.Env} {Q : SV → Prop} : vIntV t ρ Q = t ρ fun s => ∃ z : Int, s = .v (.int z) ∧ Q (.v (.int z)) := (Eq.refl _).trans (Eq.refl _)
end
/-! ### dict(pairs) where keys come twice -/
def gMerge (kvs more : List (L2.Key × PyData)) : List (L2.Key × PyData) := more.foldl (fun acc kv => gPut acc kv.1 kv.2) kvs
theorem merge_both {K : PySem.W.Frag} {F : FS} {H : Hp} : ∀ (ws : List (L2.Key × V)) (kvs : List (L2.Key × PyData)) (us : List (L2.Key × V)) (hs : List (L2.Key × PyData)), ws.map (·.1) = kvs.map (·.1) → RA K F H (ws.map (·.2)) (kvs.map (·.2)) → us.map (·.1) = hs.map (·.1) → RA K F H (us.map (·.2)) (hs.map (·.2)) →
    (mergeK us ws).map (·.1) = (gMerge hs kvs).map (·.1) ∧ RA K F H ((mergeK us ws).map (·.2)) ((gMerge hs kvs).map (·.2))
  | [], [], us, hs, _, _, e, r => ⟨e, r⟩
  | [], _ :: _, _, _, e, _, _, _ => nomatch e
  | _ :: _, [], _, _, e, _, _, _ => nomatch e
  | (k, v) :: ws, (k', d) :: kvs, us, hs, e, r, e2, r2 => by
    rw [List.map_cons, List.map_cons] at e
    injection e with ek e
    simp only at ek
    subst ek
    obtain ⟨r1, r⟩ := RA.uncons (by simpa only [List.map_cons] using r)
    obtain ⟨p1, p2⟩ := g_put e2 r2 r1 (k := k)
    exact merge_both ws kvs (putK us k v) (gPut hs k d) e r p1 p2
/-- dict(pairs), new, the last of a key stays -/
def fDictM : FC := fun ss Q => ∃ (s : SV) (kvs : List (L2.Key × PyData)), ss = [s] ∧ s.asQ = some (kvs.map fun kv => .tuple [kD kv.1, kv.2]) ∧ Q (odK (gMerge [] kvs))
theorem cs_dictM {K : PySem.W.Frag} : CallS K (rDictQ K) fDictM := by
  intro F H us ss Q R fo al ⟨s, kvs, e, e1, q⟩ k
  subst e
  obtain ⟨u, rfl, h⟩ := ah1 al
  obtain ⟨a, xs, rfl, sq, r⟩ := asQ_sq h e1
  obtain ⟨ps, ws, ex, pr, ek, rr⟩ := pairs_of r
  subst ex
  obtain ⟨m1, m2⟩ := merge_both ws kvs [] [] ek rr rfl .nil
  refine ⟨a, ps, ws, rfl, sq, pr, fun p hp => ?_⟩
  have e1 : (CT.K ((gMerge [] kvs).map (·.1))).ho ((mergeK [] ws).map (·.2)) = .dK (mergeK [] ws) := by show HO.dK _ = _; rw [← m1, zipV_back rfl rfl]
  have := PRes.newC (c := .K ((gMerge [] kvs).map (·.1))) fo hp m2
  rw [e1] at this
  exact k _ _ _ _ q (fun _ _ z => nomatch z) this
theorem m_dictM {ss : List SV} {Q : SV → Prop} : fDictM ss Q = ∃ (s : SV) (kvs : List (L2.Key × PyData)), ss = [s] ∧ s.asQ = some (kvs.map fun kv => .tuple [kD kv.1, kv.2]) ∧ Q (odK (gMerge [] kvs)) := (Eq.refl _).trans (Eq.refl _)
/-! ### sorted(t), t a tuple -/
mutual
theorem rd_at {h : Heap} : ∀ (d : PyData) (v : Value) (as : List Addr), d.hasDict = false → Reads h v d as → ∀ a ∈ as, ∃ o, h.get? a = some o
  | .none, _, _, _, .none, _, ha => nomatch ha
  | .bool _, _, _, _, .bool _, _, ha => nomatch ha
  | .int _, _, _, _, .int _ _, _, ha => nomatch ha
  | .str _, _, _, _, .str _ _, _, ha => nomatch ha
  | .list xs, _, _, nd, .list h1 _ _ r, a, ha => by
    rcases List.mem_cons.mp ha with rfl | ha
    · exact ⟨_, h1⟩
    · exact rds_at xs _ _ (by simpa [PyData.hasDict] using nd) r a ha
  | .tuple xs, _, _, nd, .tuple _ _ _ r, a, ha => rds_at xs _ _ (by simpa [PyData.hasDict] using nd) r a ha
  | .dict _, _, _, nd, _, _, _ => by simp [PyData.hasDict] at nd
theorem rds_at {h : Heap} : ∀ (ds : List PyData) (vs : List Value) (as : List Addr), PyData.hasDictAll ds = false → ReadsAll h vs ds as → ∀ a ∈ as, ∃ o, h.get? a = some o
  | [], _, _, _, .nil, _, ha => nomatch ha
  | d :: ds, _, _, nd, .cons r1 r2, a, ha => by
    simp only [PyData.hasDictAll, Bool.or_eq_false_iff] at nd
    rcases List.mem_append.mp ha with ha | ha
    · exact rd_at d _ _ nd.1 r1 a ha
    · exact rds_at ds _ _ nd.2 r2 a ha
end
theorem each_out {h h2 : Heap} {p : Addr} (kp : ∀ b o, h.get? b = some o → h2.get? b = some o) (hp : h.get? p = none) : ∀ {us : List Value} {ds : List PyData} {as : List Addr}, PyData.hasDictAll ds = false → ReadsAll h us ds as → PySem.W.EachIs (fun v d => ∃ as, Reads h2 v (id d) as ∧ p ∉ as) us ds
  | _, _, _, _, .nil => .nil
  | _, _, _, nd, .cons r1 r2 => by
    simp only [PyData.hasDictAll, Bool.or_eq_false_iff] at nd
    exact .cons ⟨_, PyProof.Rows.Reads.keeps kp r1, fun ha => by
      obtain ⟨o, e⟩ := rd_at _ _ _ nd.1 r1 p ha
      rw [hp] at e; cases e⟩ (each_out kp hp nd.2 r2)
def rSortedTA (K : PySem.W.Frag) : List V → Hp → L2.VK → Prop := fun us H Q => ∃ (P : V → PyData → Prop) (a : Addr) (vs : List V) (ds : List PyData), us = [.ref a] ∧ SqT K H a vs ∧ PySem.W.EachIs P vs ds ∧ DpAll K H vs ds ∧
  PySem.W.AllAlike ds ∧ PySem.W.Sortable ds ∧ (∀ d ∈ ds, d.depth ≤ 60) ∧ ds.length ≤ 100000 ∧ ∀ (ys : List V) p, PySem.W.EachIs P ys (Srts ds) → H p = none → Q (.ref p) (upd H p (.lst ys))
theorem cr_sortedTA {X : Cx} {k : Nat} (hr : Room k X.A) : CallR X (.builtin "sorted") (rSortedTA X.K) := by
  intro pins s σ H xs us Q I r h
  obtain ⟨P, a, vs, ds, rfl, hs, ep, dp, al, so, dl, ln, q⟩ := h
  obtain ⟨its, rv, ⟨o, ho, hc, n, hd⟩, _⟩ := I.tuple hs
  obtain ⟨u, rfl, ru⟩ := vals1 r
  obtain rfl : u = Value.ref a := ru
  obtain ⟨as, rd⟩ := Dp.readsAll I ds vs its dp rv
  have lens : its.length = ds.length := (each_vals rv ep).length
  have zl : sizeLine = 16777216 := rfl
  refine Calls.call_function_entry PyProof.Rows.kind_sorted PyProof.Rows.plain_sorted PyProof.Rows.entry_sorted (PyProof.Rows.args_sorted1 _) ?_
  unfold Builtin.«sorted»
  refine wpAny_bind (m := checkCount "sorted" 1 1 _) (wpAny_pure ?_)
  refine wpAny_bind (PySem.wpAny_collect_seq a (T := "tuple") (.inr rfl) ho hc hd (fun h' kp => ?_) (by simp only [List.size_toArray]; omega))
  simp only [List.toList_toArray]
  have I1 : Inv X pins σ H { s with heap := h' } := I.kept (t' := s.toks) kp
  refine wpAny_bind (wpAny_newList ?_ (by omega))
  have hoL : (h'.push (seqObj "list" its.toArray 0)).get? h'.objs.size = some (seqObj "list" its.toArray 0) := Heap.get?_push_size _ rfl
  show wpAny _ _ _ _ _ { s with heap := h'.push (seqObj "list" its.toArray 0) }
  have keep : ∀ b ob, h'.get? b = some ob → (h'.push (seqObj "list" its.toArray 0)).get? b = some ob := fun b ob e => Heap.get?_push_of_some _ e
  have hu := hu64 hr
  have np : s.heap.get? h'.objs.size = none := by
    cases e : s.heap.get? h'.objs.size with
    | none => rfl
    | some u => exact absurd (Heap.lt_size (kp _ _ e)) (Nat.lt_irrefl _)
  have er := each_out (fun b o e => keep b o (kp b o e)) np (alikes_nd al) rd
  refine wpAny_bind (wpAny_holding (PySem.W.list_sort_data (enc := id) (s := { s with heap := h'.push (seqObj "list" its.toArray 0) }) hoL (each_vals rv ep) er (by rw [List.map_id]; exact al) (by rw [List.map_id]; exact so) (by omega) (fun d hd => ?_) fun out hl eo => ?_))
  · have := dl d hd
    show X.A.in1.units + 1 + d.depth < cLine
    have e : X.A.in1.units = X.A.units + 1 := rfl
    omega
  · obtain ⟨ys, h1, h2⟩ := vals_each eo
    obtain ⟨n', hn'⟩ := PyProof.Rows.sortedHeap_at (vs := its) (out := List.toArray out) hoL
    have I2 : Inv X pins σ (upd H h'.objs.size (.lst ys)) _ := I1.laid (t' := s.toks) (h' := PyProof.Rows.sortedHeap (h'.push (seqObj "list" its.toArray 0)) h'.objs.size its (List.toArray out)) (o := .lst ys) (fun b u e => by
      have hb : b < h'.objs.size := Heap.lt_size e
      rw [PyProof.Rows.sortedHeap_old (Nat.ne_of_lt hb) (by rw [Heap.size_push]; exact Nat.lt_succ_of_lt hb)]
      exact keep _ _ e) (Nat.le_refl _) ⟨by rw [h1.length, hl]; omega, out, n', h1, hn'⟩
    exact wpAny_pure ⟨_, rfl, .ref h'.objs.size, _, I2, rfl, q ys _ h2 (I1.hok.fresh (Nat.le_refl _))⟩
def fSortT : FC := fun ss Q => ∃ s ds, ss = [s] ∧ s.asT = some ds ∧ PySem.W.AllAlike ds ∧ PySem.W.Sortable ds ∧ (∀ d ∈ ds, d.depth ≤ 60) ∧ ds.length ≤ 100000 ∧ Q (.own (Srts ds))
theorem cs_sortT {K : PySem.W.Frag} : CallS K (rSortedTA K) fSortT := by
  intro F H us ss Q R fo al ⟨s, ds, e, e1, h1, h2, h3, h4, q⟩ k
  subst e
  obtain ⟨u, rfl, h⟩ := ah1 al
  obtain ⟨a, xs, rfl, sq, r⟩ := asT_sq h e1
  exact ⟨fun v d => R1 K F H v d, a, xs, ds, rfl, sq.t, ra_each r, RA.dp r (alikes_nd h1), h1, h2, h3, h4, fun ys p er hp => k _ _ _ _ q (fun _ _ z => nomatch z) (.newL fo hp (each_ra er))⟩
end VL
namespace VL
open PySem PySem.Spec PyProof.Rows L2 VG
section
variable {K : PySem.W.Frag} {F F' F1 F2 : FS} {H H' H1 H2 : Hp} {p : Addr} {od : Obj} {us : List (L2.Key × V)}
/-- walked to the end -/
theorem for_core {X : Cx} {w : Bool} {κ2 : Nat} {is : List Nat} {g : TGt} {t : TVS} {gt : TG} {tb : TS} {J : It} {ds : List PyData} {B : Bas} {σ : Hs} {ρ : Env} {E : VEnds} {D : Ends}
    (gg : ∀ (B : Bas) (F : FS) (H : Hp) (σ : Hs) (ρ : List SV) (u : V) (d : PyData) (Q : Env → Prop) (R : Hs → Hp → Prop), ER X.K B F H σ ρ → R1q w X.K F H u d → g d ρ Q → GS X.K is σ ρ B F H Q R → gt u σ H R)
    (gb : ∀ B F H σ ρ E D, ER X.K B F H σ ρ → F.ck + κ2 ≤ LIM → t E ρ → Cont X.K B E D (F.ck + κ2) → tb D σ H)
    (er : ER X.K B F1 H1 σ ρ) (wk : Wk w J X.K ds F1 H1) (bq : F1.ck + ds.length * κ2 ≤ LIM) (q : vLoop g t E ds ρ) (k : Cont X.K B E D (F1.ck + ds.length * κ2)) :
    ∃ W : Nat → Nat → L2.St → Hp → Prop, (∃ m, W 0 m σ H1) ∧ ∀ i m σ H, W i m σ H → (J.stop i H ∧ D.nx σ H) ∨ (J.go i H ∧ ∃ N : L2.St → Hp → Prop, (∀ σ' H', N σ' H' → ∃ m', m' < m ∧ W (i + 1) m' σ' H') ∧
      ∀ x H', J.yld i H x H' → gt x σ H' fun σ2 H2 => tb { nx := N, rt := D.rt, bk := D.nx, ct := N } σ2 H2) := by
  have er2 : ER X.K { B with G := fun a o => H1 a = some o ∧ Stay F1 a o } F1 H1 σ ρ := er.rebase fun a o z => z
  have back : ∀ {F' : FS} {H' : Hp} {σ' : Hs} {ρ' : Env}, ER X.K { B with G := fun a o => H1 a = some o ∧ Stay F1 a o } F' H' σ' ρ' → ER X.K B F' H' σ' ρ' := fun {F' H' σ' ρ'} e =>
    e.rebase fun a o z => e.pin a o (er.pin a o z)
  have fm : ∀ {F' : FS} {H' : Hp} {σ' : Hs} {ρ' : Env}, ER X.K { B with G := fun a o => H1 a = some o ∧ Stay F1 a o } F' H' σ' ρ' → FM F1 F' H1 H' := fun {F' H' σ' ρ'} e =>
    fm_of er.dm fun a o h1 h2 => e.pin a o ⟨h1, h2⟩
  refine ⟨fun i m σ' H' => m = ds.length - i ∧ i ≤ ds.length ∧ ∃ (F' : FS) (ρ' : Env), F'.ck ≤ F1.ck + i * κ2 ∧ ER X.K { B with G := fun a o => H1 a = some o ∧ Stay F1 a o } F' H' σ' ρ' ∧ vLoop g t E (ds.drop i) ρ', ⟨_, rfl, Nat.zero_le _, F1, ρ, by omega, er2, q⟩, ?_⟩
  rintro i m σ' H' ⟨rfl, hi, F', ρ', ce, er', q'⟩
  have hm1 : i * κ2 ≤ ds.length * κ2 := Nat.mul_le_mul_right _ hi
  by_cases hlt : i < ds.length
  · refine .inr ⟨wk.go i F' H' (fm er') er'.dm hlt, fun σ3 H3 => ∃ (F3 : FS) (ρ3 : Env), F3.ck ≤ F1.ck + (i + 1) * κ2 ∧ ER X.K { B with G := fun a o => H1 a = some o ∧ Stay F1 a o } F3 H3 σ3 ρ3 ∧ vLoop g t E (ds.drop (i + 1)) ρ3, fun σ3 H3 ⟨F3, ρ3, c3, er3, q3⟩ => ⟨ds.length - (i + 1), by omega, rfl, hlt, F3, ρ3, c3, er3, q3⟩, fun y H2 hy => ?_⟩
    have hd : ds[i]? = some (ds[i]'hlt) := List.getElem?_eq_getElem hlt
    obtain ⟨F2, c2, st, dm, r⟩ := wk.yld i F' H' y H2 _ (fm er') er'.dm hd hy
    have er2' := er'.step ((er'.refl).pure st dm)
    rw [List.drop_eq_getElem_cons hlt] at q'
    refine gg _ F2 H2 σ' ρ' y _ _ _ er2' r q' fun σ4 ρ4 er4 _ q4 => ?_
    have hm2 : (i + 1) * κ2 ≤ ds.length * κ2 := Nat.mul_le_mul_right _ hlt
    have hm3 : (i + 1) * κ2 = i * κ2 + κ2 := Nat.succ_mul i κ2
    exact gb _ F2 H2 σ4 ρ4 _ _ er4 (by omega) q4 ⟨fun F3 H3 σ3 ρ3 c3 er3 q3 => ⟨F3, ρ3, by omega, er3, q3⟩, fun s u F3 H3 c3 h1 h2 h3 => k.rt s u F3 H3 (by omega) h1 h2 ⟨h3.st, h3.dm, h3.kb, h3.sr, h3.fo, fun a o z => h3.pin a o (er.pin a o z)⟩,
      fun F3 H3 σ3 ρ3 c3 er3 q3 => k.nx F3 H3 σ3 ρ3 (by omega) (back er3) q3, fun F3 H3 σ3 ρ3 c3 er3 q3 => ⟨F3, ρ3, by omega, er3, q3⟩⟩
  · have e : i = ds.length := by omega
    subst e
    rw [List.drop_length] at q'
    exact .inl ⟨wk.stop F' H' (fm er') er'.dm, k.nx F' H' σ' ρ' (by omega) (back er') q'⟩
/-! ### locking -/
theorem LD.nf {o : HO} (h : LD o) (od : Obj) (u : HO) : o ≠ .frz od u := by cases h <;> exact fun z => nomatch z
theorem ER.lock {B : Bas} {σ : Hs} {ρ : Env} {i : Nat} {kvs : List (L2.Key × PyData)} (er : ER K B F H σ ρ) (hi : ρ[i]? = some (odK kvs)) (od : Obj) :
    ∃ p us, σ[i]? = some (some (.ref p)) ∧ H p = some (.dK us) ∧ us.map (·.1) = kvs.map (·.1) ∧ ¬ F p ∧ B.H0 p = none ∧ (∀ o, ¬ B.G p o) ∧
      ER K { B with G := fun a o => B.G a o ∨ (a = p ∧ o = .frz od (.dK us)) } F (upd H p (.frz od (.dK us))) σ (ρ.set i (.dct kvs)) := by
  obtain ⟨u, hu, p, ws, rfl, hp, nf, r⟩ := er.sl i _ hi (fun z => nomatch z)
  obtain ⟨h0, nc⟩ := er.fr i _ _ p hi hu
  obtain ⟨z1, z2⟩ := zip_of r
  have hp : H p = some (.dK ((kvs.map (·.1)).zip ws)) := hp
  generalize hus : (kvs.map (·.1)).zip ws = us at hp z1 z2
  have fm : FM F F H (upd H p (.frz od (.dK us))) := by
    refine ⟨fun _ f => f, fun a o f e => ?_, fun a xs e => ?_, fun a o u e => ?_⟩
    · rw [upd_ne (fun z => nf (by rw [← z]; exact f))]; exact e
    · rw [upd_ne (fun z => by rw [z, hp] at e; cases e)]; exact e
    · rw [upd_ne (fun z => by rw [z, hp] at e; cases e)]; exact e
  have ls : ∀ {j : Nat} {s : SV}, (ρ.set i (.dct kvs))[j]? = some s → (j = i ∧ s = .dct kvs) ∨ (j ≠ i ∧ ρ[j]? = some s) := fun {j s} e => by
    by_cases z : j = i
    · subst z
      have hl : j < ρ.length := (List.getElem?_eq_some_iff.mp hi).1
      rw [List.getElem?_set_self hl] at e
      exact .inl ⟨rfl, (Option.some.inj e).symm⟩
    · rw [List.getElem?_set_ne (fun h => z h.symm)] at e
      exact .inr ⟨z, e⟩
  have cs : ∀ a, cellsOf (ρ.set i (.dct kvs)) a → cellsOf ρ a := fun a ⟨j, ns, e⟩ => by
    rcases ls e with ⟨_, z⟩ | ⟨_, e⟩
    · cases z
    · exact ⟨j, ns, e⟩
  have ng : ∀ o, ¬ B.G p o := fun o h => by
    obtain ⟨e1, st⟩ := er.pin p o h
    rw [hp] at e1
    have e1 := (Option.some.inj e1).symm
    subst e1
    rcases st with f | ⟨_, y⟩ | ⟨_, _, y⟩
    · exact nf f
    · cases y
    · cases y
  refine ⟨p, us, hu, hp, z1, nf, h0, ng, ?_⟩
  refine ⟨by rw [List.length_set]; exact er.len, fun j s e hn => ?_, fun j c ds e => ?_, fun j k c c' ds es q e1 e2 => ?_, fun j c ds q e1 e2 => ?_, fun a h => er.cf a (cs a h), er.bs.mut h0, fun a ns h => ?_, fun a o h => ?_, fun a f => ?_⟩
  · rcases ls e with ⟨rfl, rfl⟩ | ⟨nj, e⟩
    · exact ⟨_, hu, p, us, rfl, .inr ⟨od, upd_same⟩, z1, Rp.mono fm (by rw [z2]; exact r)⟩
    · obtain ⟨v, hv, sr⟩ := er.sl j s e hn
      refine ⟨v, hv, ?_⟩
      cases s with
      | un => trivial
      | v d => exact Rp.mono fm sr
      | fz ks ds =>
        obtain ⟨q, xs, rfl, f, e1, rr⟩ := sr
        exact ⟨q, xs, rfl, f, fm.fk _ _ f e1, Rp.mono fm rr⟩
      | ow c ds =>
        obtain ⟨q, xs, rfl, e1, f, rr⟩ := sr
        have nq : q ≠ p := fun z => nj (er.ow j i _ _ _ _ p e hi (by rw [← z]; exact hv) hu)
        exact ⟨q, xs, rfl, by rw [upd_ne nq]; exact e1, f, Rp.mono fm rr⟩
      | bw c ds => exact absurd e (er.nb j c ds)
      | cell a ns => exact ⟨sr.1, sr.2.mutO (fun z => nc (by rw [← z]; exact ⟨j, ns, e⟩)) nf⟩
      | scr ns =>
        obtain ⟨a, rfl, q⟩ := sr
        exact ⟨a, rfl, q.keep fm⟩
      | dct kvs =>
        obtain ⟨q, xs, rfl, f, k, rr⟩ := sr
        exact ⟨q, xs, rfl, f.mono fm, k, Rp.mono fm rr⟩
      | fns kvs =>
        obtain ⟨q, rfl, f, e1⟩ := sr
        exact ⟨q, rfl, f, fm.fk _ _ f e1⟩
  · rcases ls e with ⟨_, z⟩ | ⟨_, e⟩
    · cases z
    · exact er.nb j c ds e
  · rcases ls e1 with ⟨_, z⟩ | ⟨_, e1⟩
    · cases z
    · rcases ls e2 with ⟨_, z⟩ | ⟨_, e2⟩
      · cases z
      · exact er.ow j k c c' ds es q e1 e2
  · rcases ls e1 with ⟨_, z⟩ | ⟨_, e1⟩
    · cases z
    · exact ⟨(er.fr j c ds q e1 e2).1, fun z => (er.fr j c ds q e1 e2).2 (cs q z)⟩
  · obtain ⟨c, n⟩ := er.kb a ns h
    exact ⟨c.mutO (fun z => n (by rw [z]; exact h0)) nf, n⟩
  · rcases h with h | ⟨rfl, rfl⟩
    · obtain ⟨e1, st⟩ := er.pin a o h
      have na : a ≠ p := fun z => by
        rw [z, hp] at e1
        have e1 := (Option.some.inj e1).symm
        subst e1
        rcases st with f | ⟨_, y⟩ | ⟨_, _, y⟩
        · exact nf (by rw [← z]; exact f)
        · cases y
        · cases y
      exact ⟨by rw [upd_ne na]; exact e1, st⟩
    · exact ⟨upd_same, .inr (.inr ⟨_, _, rfl⟩)⟩
  · obtain ⟨o, e, l⟩ := er.dm a f
    exact ⟨o, by rw [upd_ne (fun z => nf (by rw [← z]; exact f))]; exact e, l⟩
/-! ### unlocking: it is frozen from then on -/
theorem fok_ne (d : FOk F H) (hp : H p = some (.frz od (.dK us))) {a : Addr} (f : F a) : a ≠ p := fun z => by
  obtain ⟨o, e, l⟩ := d a f
  rw [z, hp] at e
  exact l.nf _ _ (Option.some.inj e).symm
theorem un_sqn (hp : H p = some (.frz od (.dK us))) {a : Addr} {xs : List V} (h : SqN K H a xs) : SqN K (upd H p (.dK us)) a xs := by
  rcases h with ⟨o, d, h⟩ | h
  · exact .inl ⟨o, d, by rw [upd_ne (fun z => by rw [z, hp] at h; cases h)]; exact h⟩
  · exact .inr h
theorem un_rp (d : FOk F H) (hp : H p = some (.frz od (.dK us))) {b : Bool} {vs : List V} {ds : List PyData} (h : Rp K F H b vs ds) : Rp K (F.or fun x => x = p) (upd H p (.dK us)) b vs ds := by
  induction h with
  | nil => exact .nil
  | cons _ _ a b => exact .cons a b
  | non => exact .non
  | bl b => exact .bl b
  | int i => exact .int i
  | str x => exact .str x
  | lst f h _ ih => exact .lst (.inl f) (by rw [upd_ne (fok_ne d hp f)]; exact h) ih
  | dic f h _ ih => exact .dic (.inl f) (by rw [upd_ne (fok_ne d hp f)]; exact h) ih
  | tup h _ ih => exact .tup (un_sqn hp h) ih
theorem un_ci (hp : H p = some (.frz od (.dK us))) (d : FOk F H) {a : Addr} {ns : Cel} (c : CI F H a ns) : CI (F.or fun x => x = p) (upd H p (.dK us)) a ns := by
  obtain ⟨nf, c', j, l, n, e1, e2, e3, cb⟩ := c
  have na : a ≠ p := fun z => by
    rw [z, hp] at e1
    have e1 := Option.some.inj e1
    obtain ⟨t, ns⟩ := ns
    cases t <;> cases e1
  exact ⟨fun z => z.elim nf na, c', j, l, n, by rw [upd_ne na]; exact e1, .inl e2, by rw [upd_ne (fok_ne d hp e2)]; exact e3, cb⟩
theorem un_scr (hp : H p = some (.frz od (.dK us))) {a : Addr} {ns : List Int} (h : ScrL K H a ns) : ScrL K (upd H p (.dK us)) a ns := fun H2 k => by
  have h2 := h (upd H2 p (.frz od (.dK us))) fun b o u e => by
    by_cases z : b = p
    · rw [z] at e ⊢
      rw [upd_same, ← hp, e]
    · rw [upd_ne z]
      exact k b o u (by rw [upd_ne z]; exact e)
  rcases h2 with (h2 | ⟨o, h2⟩) | h2
  · by_cases z : a = p
    · rw [z, upd_same] at h2; cases h2
    · rw [upd_ne z] at h2; exact .inl (.inl h2)
  · by_cases z : a = p
    · rw [z, upd_same] at h2; cases h2
    · rw [upd_ne z] at h2; exact .inl (.inr ⟨o, h2⟩)
  · exact .inr h2
theorem un_slot (d : FOk F H) (hp : H p = some (.frz od (.dK us))) {u : V} {s : SV} (sr : SlotR K F H u s) : SlotR K (F.or fun x => x = p) (upd H p (.dK us)) u s := by
  cases s with
  | un => trivial
  | v e => exact un_rp d hp sr
  | fz ks ds =>
    obtain ⟨q, xs, rfl, f, e1, rr⟩ := sr
    exact ⟨q, xs, rfl, .inl f, by rw [upd_ne (fok_ne d hp f)]; exact e1, un_rp d hp rr⟩
  | ow c ds =>
    obtain ⟨q, xs, rfl, e1, f, rr⟩ := sr
    have nq : q ≠ p := fun z => by rw [z, hp] at e1; exact CT.nf _ _ _ _ (Option.some.inj e1).symm
    exact ⟨q, xs, rfl, by rw [upd_ne nq]; exact e1, fun z => z.elim f nq, un_rp d hp rr⟩
  | bw c ds =>
    obtain ⟨q, xs, rfl, e1, rr⟩ := sr
    have nq : q ≠ p := fun z => by rw [z, hp] at e1; exact CT.nf _ _ _ _ (Option.some.inj e1).symm
    exact ⟨q, xs, rfl, by rw [upd_ne nq]; exact e1, un_rp d hp rr⟩
  | cell a ns => exact ⟨sr.1, un_ci hp d sr.2⟩
  | scr ns =>
    obtain ⟨a, rfl, q⟩ := sr
    exact ⟨a, rfl, un_scr hp q⟩
  | dct kvs =>
    obtain ⟨q, xs, rfl, f, k, rr⟩ := sr
    refine ⟨q, xs, rfl, ?_, k, un_rp d hp rr⟩
    rcases f with ⟨f, e⟩ | ⟨o, e⟩
    · exact .inl ⟨.inl f, by rw [upd_ne (fok_ne d hp f)]; exact e⟩
    · by_cases z : q = p
      · subst z
        rw [hp] at e
        injection e with e
        injection e with _ e
        injection e with e
        subst e
        exact .inl ⟨.inr rfl, upd_same⟩
      · exact .inr ⟨o, by rw [upd_ne z]; exact e⟩
  | fns kvs =>
    obtain ⟨q, rfl, f, e1⟩ := sr
    exact ⟨q, rfl, .inl f, by rw [upd_ne (fok_ne d hp f)]; exact e1⟩
theorem un_fok (d : FOk F H) (hp : H p = some (.frz od (.dK us))) : FOk (F.or fun x => x = p) (upd H p (.dK us)) := fun a f => by
  rcases f with f | rfl
  · obtain ⟨o, e, l⟩ := d a f
    exact ⟨o, by rw [upd_ne (fok_ne d hp f)]; exact e, l⟩
  · exact ⟨_, upd_same, .dct⟩
theorem ER.unlock {B : Bas} {σ : Hs} {ρ : Env} (h0 : B.H0 p = none) (ng : ∀ o, ¬ B.G p o) (er : ER K { B with G := fun a o => B.G a o ∨ (a = p ∧ o = .frz od (.dK us)) } F H σ ρ) : H p = some (.frz od (.dK us)) ∧ ER K B (F.or fun x => x = p) (upd H p (.dK us)) σ ρ := by
  obtain ⟨hp, _⟩ := er.pin p _ (.inr ⟨rfl, rfl⟩)
  refine ⟨hp, er.len, fun j s e hn => ?_, er.nb, er.ow, er.fr, er.cf, (er.bs.mut h0).frz (N := fun x => x = p) fun x z => by rw [z]; exact h0, fun a ns h => ?_, fun a o h => ?_, un_fok er.dm hp⟩
  · obtain ⟨v, hv, sr⟩ := er.sl j s e hn
    exact ⟨v, hv, un_slot er.dm hp sr⟩
  · obtain ⟨c, n⟩ := er.kb a ns h
    exact ⟨un_ci hp er.dm c, n⟩
  · obtain ⟨e1, st⟩ := er.pin a o (.inl h)
    have na : a ≠ p := fun z => ng o (by rw [← z]; exact h)
    exact ⟨by rw [upd_ne na]; exact e1, st.elim (fun f => .inl (.inl f)) .inr⟩
theorem Fin.unlock {B : Bas} {s : SV} {u : V} (h0 : B.H0 p = none) (ng : ∀ o, ¬ B.G p o) (f : Fin K { B with G := fun a o => B.G a o ∨ (a = p ∧ o = .frz od (.dK us)) } F H s u) : H p = some (.frz od (.dK us)) ∧ Fin K B (F.or fun x => x = p) (upd H p (.dK us)) s u := by
  obtain ⟨hp, _⟩ := f.pin p _ (.inr ⟨rfl, rfl⟩)
  refine ⟨hp, (f.st.mut h0).frz (N := fun x => x = p) fun x z => by rw [z]; exact h0, un_fok f.dm hp, fun a ns h => un_ci hp f.dm (f.kb a ns h), un_slot f.dm hp f.sr, by have h := f.fo; cases s <;> exact h, fun a o h => ?_⟩
  obtain ⟨e1, st⟩ := f.pin a o (.inl h)
  have na : a ≠ p := fun z => ng o (by rw [← z]; exact h)
  exact ⟨by rw [upd_ne na]; exact e1, st.elim (fun f => .inl (.inl f)) .inr⟩
/-! ### for k in d -/
theorem wk_keys (hp : H1 p = some (.frz od (.dK us))) : Wk false (Itk p od us) K (us.map fun kv => kD kv.1) F1 H1 where
  go := fun i F H m d hi => ⟨m.fz _ _ _ hp, by simpa using hi⟩
  yld := fun i F H x H' d m fo hd y => by
    obtain ⟨rfl, k, v, hk, rfl⟩ := y
    rw [List.getElem?_map, hk] at hd
    have hd := Option.some.inj hd
    simp only at hd
    subst hd
    refine ⟨F, rfl, Stp.refl, fo, .inl ?_⟩
    cases k with
    | inl i => exact .int i
    | inr z => exact .str z
  stop := fun F H m d => ⟨m.fz _ _ _ hp, by rw [List.length_map]; exact Nat.le_refl _⟩
/-- for k in d, d the dict of this frame in slot i; it is frozen from then on -/
def vForK (i : Nat) (g : TGt) (t : TVS) : TVS := fun E ρ => ∃ kvs, ρ[i]? = some (odK kvs) ∧ vLoop g t E (kvs.map fun kv => kD kv.1) (ρ.set i (.dct kvs))
theorem vs_forK {X : Cx} {κ2 : Nat} {i : Nat} {is : List Nat} {tg iter : Expr} {st : Stmt} {body : List Stmt} {g : TGt} {t : TVS} (h : ∀ wi tg' tb, PI X tg iter wi → PG X tg tg' → PSs X body tb → PS X st (tLock (tFor wi tg' tb))) (hi : PE X iter (tVar i)) (hg : VTg false X is tg g)
    (hb : VSs X body t κ2) (h0 : κ2 = 0 := by omega) : VS X st (vForK i g t) 0 := by
  subst h0
  obtain ⟨gt, pg, gg⟩ := hg
  obtain ⟨tb, pb, gb⟩ := hb
  refine ⟨_, h _ _ _ (pi_keys hi) pg pb, fun B F H σ ρ E D er bq ⟨kvs, hk, q⟩ k => ?_⟩
  obtain ⟨p, us, hu, hp, _⟩ := er.lock hk default
  refine ⟨p, .dK us, hp, trivial, fun od => ?_⟩
  obtain ⟨p', us', hu', hp', ek, nf, h0, ng, er1⟩ := er.lock hk od
  rw [hu] at hu'
  have ep : p = p' := by injection hu' with e; injection e with e; injection e
  subst ep
  rw [hp] at hp'
  have eu : us = us' := by injection hp' with e; injection e
  subst eu
  refine ⟨.ref p, hu, p, od, rfl, .inl ⟨us, upd_same, ?_⟩⟩
  have ed : (kvs.map fun kv => kD kv.1) = us.map fun kv => kD kv.1 := by
    have := congrArg (List.map kD) ek
    rw [List.map_map, List.map_map] at this
    exact this.symm
  rw [ed] at q
  exact for_core gg gb er1 (wk_keys upd_same) (by omega) q
    ⟨fun F' H' σ' ρ' c e q => ⟨(e.unlock h0 ng).1, k.nx (F'.or fun x => x = p) _ σ' ρ' (by show F'.ck ≤ _; omega) (e.unlock h0 ng).2 q⟩,
     fun s u F' H' c h1 h2 h3 => ⟨(h3.unlock h0 ng).1, k.rt s u (F'.or fun x => x = p) _ (by show F'.ck ≤ _; omega) h1 h2 (h3.unlock h0 ng).2⟩,
     fun F' H' σ' ρ' c e q => ⟨(e.unlock h0 ng).1, k.bk (F'.or fun x => x = p) _ σ' ρ' (by show F'.ck ≤ _; omega) (e.unlock h0 ng).2 q⟩,
     fun F' H' σ' ρ' c e q => ⟨(e.unlock h0 ng).1, k.ct (F'.or fun x => x = p) _ σ' ρ' (by show F'.ck ≤ _; omega) (e.unlock h0 ng).2 q⟩⟩
theorem s_forK {i : Nat} {g : TGt} {t : TVS} {E : VEnds} {ρ : Env} : vForK i g t E ρ = ∃ kvs, ρ[i]? = some (odK kvs) ∧ vLoop g t E (kvs.map fun kv => kD kv.1) (ρ.set i (.dct kvs)) := (Eq.refl _).trans (Eq.refl _)
end
end VL
namespace Own
open PySem PySem.Spec PyProof.Rows L2 VG VL
local macro_rules | `(tactic| walk_at "vl") => `(tactic| simp only [s_callD, s_tapI, s_tapL, s_tapInc, m_sortSet, s_forK, m_sortSc, m_intV, m_dictM, m_extQ, m_maxD, m_leI, m_leS, m_vtupIx, s_seq, s_next, s_asg, s_asgO2, asgO_own, asgO_odK, asgO_odT, frz_own, frz_odK, frz_odT, hand_odK, hand_odT, hand_fzT, lend_odK, lend_odT, lend_fzT, hands_odK, hands_odT, hands_fzT, taps_odK, taps_odT, taps_fzT, datasIn_odK, m_dnewK, m_dnewT, odK_ex, odT_ex, s_putK, s_putT, keyI_ex, keyS_ex, m_get1, m_get2, isd_bdK, isd_odK, isd_dKD, isd_dct, isd_bdT, isd_odT, isd_fzT, m_gitem, m_gin, s_aug, vint_ex, m_fIsB, m_isi2, m_enum, enT_ex, enL_ex, s_parN, keeps_nil, keeps_v, keeps_own, keeps_odK, keeps_odT, keeps_fzT, keeps_dct, setAll_nil, setAll_cons, m_dictO, s_never, s_ret, s_retN, s_if, s_drop, s_frz2, s_app, s_ext, s_par, s_asgT, s_for, s_cells, s_cellN, s_cellSet, s_feed, s_call, s_callK,
  cell_ex, own_ex, v_ex, pair_ex, one_ex, some_ex, b_ex, g_name, g_tup, g_nil, g_cons, m_ii, m_bin, m_c, m_cb, m_nil, m_cons, m_i1, m_i2, m_test, m_isB, m_isI, m_if, m_and, m_or, m_notT, m_andV, m_orV, m_notV, m_neg, m_tup, m_lst,
  hand_v, hand_own, hand_cell, hand_scr, lend_v, lend_own, lend_cell, lend_scr, hands_nil, hands_v, hands_own, hands_cell, hands_scr, datasIn_nil, datasIn_v, datasIn_own, m_fAbs, m_fMin, m_fMax, m_fGcd, m_fSub, m_fMul, m_fDiv, m_fMod, m_fPow,
  m_fAdd, m_fLt, m_ltI, m_ltS, m_geI, m_chain, m_ord, m_kin, m_kget, str_ex, str_ex2, m_tupR, s_disp, m_dsp, m_pairs0, m_pairs1, m_zip, s_callP, sel_nil, sel_at, s_tap, s_tapUT, s_tapSet, taps_nil, taps_v, taps_own, taps_scr, taps_dct, taps_cell, taps_tap, inE_self, inE_cons, true_or, or_true, m_fLe, m_fGt, m_fGe, m_ixT, m_ixL, m_ixO, m_ixB, m_lenL, m_lenT, m_lenO, m_lenB, m_tupB, m_tupO, m_tupL, m_tupT, m_lstO, m_lstT, m_lstL, m_repr, m_reprO, m_reprB, m_eqS, m_eqI, m_eqB, m_cellsNe, m_isi, asD_v, asD_own, asD_brw, m_revT, asT_v, m_intI, m_intB, m_mulS, m_addS, m_addT, m_addLO, m_addBO, m_addOO, m_addLL, m_addOL, m_addOB, m_some,
  vVar, List.set, List.getElem?_cons_zero, List.getElem?_cons_succ, Option.map_some, List.map_nil, List.map_cons, List.append_nil, List.nil_append, List.cons_append, List.replicate, List.length_cons, List.length_nil, vDef, VL.envOf, decide_eq_true_eq, Bool.false_eq_true, Bool.not_eq_true', decide_eq_false_iff_not, if_true, if_false, Nat.reduceAdd, Nat.reduceSub, Nat.reduceLeDiff, Nat.reduceLT, isT_int_none, isT_int_bool, isT_int_int, isT_int_str, isT_int_list, isT_int_tuple, isT_int_dict, isT_bool_none, isT_bool_bool, isT_bool_int, isT_bool_str, isT_bool_list, isT_bool_tuple, isT_bool_dict, isT_str_none, isT_str_bool, isT_str_int, isT_str_str, isT_str_list, isT_str_tuple, isT_str_dict, isT_list_none, isT_list_bool, isT_list_int, isT_list_str, isT_list_list, isT_list_tuple, isT_list_dict, isT_tuple_none, isT_tuple_bool, isT_tuple_int, isT_tuple_str, isT_tuple_list, isT_tuple_tuple, isT_tuple_dict, m_slM, slM_str, slM_tup, slM_lst, slM_own, slM_brw, hand_dct, lend_dct, hands_dct, m_dgetS, m_dgetI, m_dinS, m_dinI, m_listR, s_parO, parO_ex, true_and, and_true])
/-! ### the text -/
abbrev PW := PySem.Challenge.pw_tenanthall_k57_whole_costs_parted
def topS (i : Nat) : Stmt := PW.main.body.getD i (.Pass ⟨0, 0, 0, 0⟩)
abbrev s_is_whole : Stmt := topS 1
abbrev N_is_whole : List Str := ["thing"]
theorem sc_is_whole : FnScope N_is_whole ["thing"] (defScope s_is_whole) := ⟨rfl, rfl, rfl, by decide +kernel, rfl, by decide +kernel, by decide +kernel⟩
abbrev s_is_number : Stmt := topS 2
abbrev N_is_number : List Str := ["thing"]
theorem sc_is_number : FnScope N_is_number ["thing"] (defScope s_is_number) := ⟨rfl, rfl, rfl, by decide +kernel, rfl, by decide +kernel, by decide +kernel⟩
abbrev s_is_tuple_of : Stmt := topS 3
abbrev N_is_tuple_of : List Str := ["thing", "many"]
theorem sc_is_tuple_of : FnScope N_is_tuple_of ["thing", "many"] (defScope s_is_tuple_of) := ⟨rfl, rfl, rfl, by decide +kernel, rfl, by decide +kernel, by decide +kernel⟩
abbrev s_are_rising : Stmt := topS 4
abbrev N_are_rising : List Str := ["things", "k"]
theorem sc_are_rising : FnScope N_are_rising ["things"] (defScope s_are_rising) := ⟨rfl, rfl, rfl, by decide +kernel, rfl, by decide +kernel, by decide +kernel⟩
abbrev s_is_kind : Stmt := topS 8
abbrev N_is_kind : List Str := ["thing"]
theorem sc_is_kind : FnScope N_is_kind ["thing"] (defScope s_is_kind) := ⟨rfl, rfl, rfl, by decide +kernel, rfl, by decide +kernel, by decide +kernel⟩
abbrev s_is_tier : Stmt := topS 9
abbrev N_is_tier : List Str := ["thing"]
theorem sc_is_tier : FnScope N_is_tier ["thing"] (defScope s_is_tier) := ⟨rfl, rfl, rfl, by decide +kernel, rfl, by decide +kernel, by decide +kernel⟩
abbrev s_are_tiers : Stmt := topS 10
abbrev N_are_tiers : List Str := ["thing", "tier", "part"]
theorem sc_are_tiers : FnScope N_are_tiers ["thing"] (defScope s_are_tiers) := ⟨rfl, rfl, rfl, by decide +kernel, rfl, by decide +kernel, by decide +kernel⟩
abbrev s_is_price : Stmt := topS 11
abbrev N_is_price : List Str := ["thing"]
theorem sc_is_price : FnScope N_is_price ["thing"] (defScope s_is_price) := ⟨rfl, rfl, rfl, by decide +kernel, rfl, by decide +kernel, by decide +kernel⟩
abbrev s_is_prices : Stmt := topS 12
abbrev N_is_prices : List Str := ["thing", "price", "part"]
theorem sc_is_prices : FnScope N_is_prices ["thing"] (defScope s_is_prices) := ⟨rfl, rfl, rfl, by decide +kernel, rfl, by decide +kernel, by decide +kernel⟩
abbrev s_tiers_of : Stmt := topS 13
abbrev N_tiers_of : List Str := ["prices", "kind"]
theorem sc_tiers_of : FnScope N_tiers_of ["prices", "kind"] (defScope s_tiers_of) := ⟨rfl, rfl, rfl, by decide +kernel, rfl, by decide +kernel, by decide +kernel⟩
abbrev s_cost : Stmt := topS 14
abbrev N_cost : List Str := ["tiers", "units", "ahead", "coins", "k", "end", "start", "each"]
theorem sc_cost : FnScope N_cost ["tiers", "units", "ahead"] (defScope s_cost) := ⟨rfl, rfl, rfl, by decide +kernel, rfl, by decide +kernel, by decide +kernel⟩
abbrev s_period_of : Stmt := topS 17
abbrev N_period_of : List Str := ["day", "calendar"]
theorem sc_period_of : FnScope N_period_of ["day", "calendar"] (defScope s_period_of) := ⟨rfl, rfl, rfl, by decide +kernel, rfl, by decide +kernel, by decide +kernel⟩
abbrev s_noted : Stmt := topS 18
abbrev N_noted : List Str := ["notes", "day", "kind", "units", "others", "total", "note"]
theorem sc_noted : FnScope N_noted ["notes", "day", "kind", "units"] (defScope s_noted) := ⟨rfl, rfl, rfl, by decide +kernel, rfl, by decide +kernel, by decide +kernel⟩
abbrev s_units_on : Stmt := topS 20
abbrev N_units_on : List Str := ["notes", "day", "kind", "note"]
theorem sc_units_on : FnScope N_units_on ["notes", "day", "kind"] (defScope s_units_on) := ⟨rfl, rfl, rfl, by decide +kernel, rfl, by decide +kernel, by decide +kernel⟩
abbrev s_units_ahead : Stmt := topS 21
abbrev N_units_ahead : List Str := ["notes", "day", "kind", "calendar", "period", "earlier", "its_kind", "units"]
theorem sc_units_ahead : FnScope N_units_ahead ["notes", "day", "kind", "calendar"] (defScope s_units_ahead) := ⟨rfl, rfl, rfl, by decide +kernel, rfl, by decide +kernel, by decide +kernel⟩
abbrev s_coins_on : Stmt := topS 22
abbrev N_coins_on : List Str := ["notes", "day", "kind", "prices", "calendar", "ahead"]
theorem sc_coins_on : FnScope N_coins_on ["notes", "day", "kind", "prices", "calendar"] (defScope s_coins_on) := ⟨rfl, rfl, rfl, by decide +kernel, rfl, by decide +kernel, by decide +kernel⟩
abbrev s_bill_of : Stmt := topS 23
abbrev N_bill_of : List Str := ["notes", "day", "prices", "calendar", "noted_day", "kind", "units"]
theorem sc_bill_of : FnScope N_bill_of ["notes", "day", "prices", "calendar"] (defScope s_bill_of) := ⟨rfl, rfl, rfl, by decide +kernel, rfl, by decide +kernel, by decide +kernel⟩
abbrev s_bills_until : Stmt := topS 24
abbrev N_bills_until : List Str := ["notes", "until", "prices", "calendar", "lines", "day", "note"]
theorem sc_bills_until : FnScope N_bills_until ["notes", "until", "prices", "calendar"] (defScope s_bills_until) := ⟨rfl, rfl, rfl, by decide +kernel, rfl, by decide +kernel, by decide +kernel⟩
abbrev s_law_tap : Stmt := topS 26
abbrev N_law_tap : List Str := ["_law_script"]
theorem sc_law_tap : FnScope N_law_tap ["_law_script"] (defScope s_law_tap) := ⟨rfl, rfl, rfl, by decide +kernel, rfl, by decide +kernel, by decide +kernel⟩
abbrev s_law_pick : Stmt := topS 27
abbrev N_law_pick : List Str := ["_law_tap_here", "_law_many", "_law_cell", "_law_mixed", "_law_cells", "_law_at", "_law_rest", "_law_turn"]
theorem sc_law_pick : FnScope N_law_pick ["_law_tap_here", "_law_many"] (defScope s_law_pick) := ⟨rfl, rfl, rfl, by decide +kernel, rfl, by decide +kernel, by decide +kernel⟩
abbrev s_law_great : Stmt := topS 28
abbrev N_law_great : List Str := ["_law_tap_here", "_law_some"]
theorem sc_law_great : FnScope N_law_great ["_law_tap_here"] (defScope s_law_great) := ⟨rfl, rfl, rfl, by decide +kernel, rfl, by decide +kernel, by decide +kernel⟩
abbrev s_law_tiers : Stmt := topS 29
abbrev N_law_tiers : List Str := ["_law_tap_here", "_law_starts", "_law_start", "_law_k"]
theorem sc_law_tiers : FnScope N_law_tiers ["_law_tap_here"] (defScope s_law_tiers) := ⟨rfl, rfl, rfl, by decide +kernel, rfl, by decide +kernel, by decide +kernel⟩
abbrev s_law_finer : Stmt := topS 30
abbrev N_law_finer : List Str := ["_law_tap_here", "_law_tiers_here", "_law_at", "_law_start", "_law_fits", "_law_pair"]
theorem sc_law_finer : FnScope N_law_finer ["_law_tap_here", "_law_tiers_here"] (defScope s_law_finer) := ⟨rfl, rfl, rfl, by decide +kernel, rfl, by decide +kernel, by decide +kernel⟩
abbrev s_law_parted_right : Stmt := topS 31
abbrev N_law_parted_right : List Str := ["_law_tap_here", "_law_tiers_here", "_law_near", "_law_total", "_law_double", "_law_many", "_law_before", "_law_start", "_law_coins_now"]
theorem sc_law_parted_right : FnScope N_law_parted_right ["_law_tap_here", "_law_tiers_here"] (defScope s_law_parted_right) := ⟨rfl, rfl, rfl, by decide +kernel, rfl, by decide +kernel, by decide +kernel⟩
abbrev s_law_days_right : Stmt := topS 32
abbrev N_law_days_right : List Str := ["_law_tap_here", "_law_tiers_here", "_law_spell", "_law_rows", "_law_period_now", "_law_frame", "_law_slips", "_law_sums", "_law_many", "_law_coins_now", "_law_row"]
theorem sc_law_days_right : FnScope N_law_days_right ["_law_tap_here", "_law_tiers_here"] (defScope s_law_days_right) := ⟨rfl, rfl, rfl, by decide +kernel, rfl, by decide +kernel, by decide +kernel⟩
abbrev s_law : Stmt := topS 33
abbrev N_law : List Str := ["_law_script", "_law_tap_here", "_law_lap", "_law_tiers_here", "_law_turn"]
theorem sc_law : FnScope N_law ["_law_script"] (defScope s_law) := ⟨rfl, rfl, rfl, by decide +kernel, rfl, by decide +kernel, by decide +kernel⟩
structure Txt (K : PySem.W.Frag) (mg : Str → Option Value) (w : World) : Type where
  a_KINDS : Addr
  g_KINDS : mg "KINDS" = some (.ref a_KINDS)
  r_KINDS : ∀ F H, R1 K F H (.ref a_KINDS) (PyData.tuple [(PyData.str "letters"), (PyData.str "room"), (PyData.str "steps")])
  g_MOST_TIERS : ∃ t, mg "MOST_TIERS" = some (.int (4) t)
  a_CALENDAR : Addr
  g_CALENDAR : mg "CALENDAR" = some (.ref a_CALENDAR)
  r_CALENDAR : ∀ F H, R1 K F H (.ref a_CALENDAR) (PyData.tuple [(PyData.int (5)), (PyData.int (4))])
  b_all : mg "all" = none
  b_bool : mg "bool" = none
  b_dict : mg "dict" = none
  b_enumerate : mg "enumerate" = none
  b_int : mg "int" = none
  b_isinstance : mg "isinstance" = none
  b_len : mg "len" = none
  b_list : mg "list" = none
  b_max : mg "max" = none
  b_min : mg "min" = none
  b_range : mg "range" = none
  b_sorted : mg "sorted" = none
  b_sum : mg "sum" = none
  b_tuple : mg "tuple" = none
  a_is_whole : Addr
  fd_is_whole : FuncData
  g_is_whole : mg "is_whole" = some (.ref a_is_whole)
  F_is_whole : FunD K "is_whole" "is_whole" (defArgs s_is_whole) (defBody s_is_whole) (defScope s_is_whole) [] [] a_is_whole fd_is_whole
  a_is_number : Addr
  fd_is_number : FuncData
  g_is_number : mg "is_number" = some (.ref a_is_number)
  F_is_number : FunD K "is_number" "is_number" (defArgs s_is_number) (defBody s_is_number) (defScope s_is_number) [] [] a_is_number fd_is_number
  a_is_tuple_of : Addr
  fd_is_tuple_of : FuncData
  g_is_tuple_of : mg "is_tuple_of" = some (.ref a_is_tuple_of)
  F_is_tuple_of : FunD K "is_tuple_of" "is_tuple_of" (defArgs s_is_tuple_of) (defBody s_is_tuple_of) (defScope s_is_tuple_of) [] [] a_is_tuple_of fd_is_tuple_of
  a_are_rising : Addr
  fd_are_rising : FuncData
  g_are_rising : mg "are_rising" = some (.ref a_are_rising)
  F_are_rising : FunD K "are_rising" "are_rising" (defArgs s_are_rising) (defBody s_are_rising) (defScope s_are_rising) [] [] a_are_rising fd_are_rising
  a_is_kind : Addr
  fd_is_kind : FuncData
  g_is_kind : mg "is_kind" = some (.ref a_is_kind)
  F_is_kind : FunD K "is_kind" "is_kind" (defArgs s_is_kind) (defBody s_is_kind) (defScope s_is_kind) [] [] a_is_kind fd_is_kind
  a_is_tier : Addr
  fd_is_tier : FuncData
  g_is_tier : mg "is_tier" = some (.ref a_is_tier)
  F_is_tier : FunD K "is_tier" "is_tier" (defArgs s_is_tier) (defBody s_is_tier) (defScope s_is_tier) [] [] a_is_tier fd_is_tier
  a_are_tiers : Addr
  fd_are_tiers : FuncData
  g_are_tiers : mg "are_tiers" = some (.ref a_are_tiers)
  F_are_tiers : FunD K "are_tiers" "are_tiers" (defArgs s_are_tiers) (defBody s_are_tiers) (defScope s_are_tiers) [] [] a_are_tiers fd_are_tiers
  a_is_price : Addr
  fd_is_price : FuncData
  g_is_price : mg "is_price" = some (.ref a_is_price)
  F_is_price : FunD K "is_price" "is_price" (defArgs s_is_price) (defBody s_is_price) (defScope s_is_price) [] [] a_is_price fd_is_price
  a_is_prices : Addr
  fd_is_prices : FuncData
  g_is_prices : mg "is_prices" = some (.ref a_is_prices)
  F_is_prices : FunD K "is_prices" "is_prices" (defArgs s_is_prices) (defBody s_is_prices) (defScope s_is_prices) [] [] a_is_prices fd_is_prices
  a_tiers_of : Addr
  fd_tiers_of : FuncData
  g_tiers_of : mg "tiers_of" = some (.ref a_tiers_of)
  F_tiers_of : FunD K "tiers_of" "tiers_of" (defArgs s_tiers_of) (defBody s_tiers_of) (defScope s_tiers_of) [] [] a_tiers_of fd_tiers_of
  a_cost : Addr
  fd_cost : FuncData
  g_cost : mg "cost" = some (.ref a_cost)
  F_cost : FunD K "cost" "cost" (defArgs s_cost) (defBody s_cost) (defScope s_cost) [] [("ahead", .int 0)] a_cost fd_cost
  a_period_of : Addr
  fd_period_of : FuncData
  g_period_of : mg "period_of" = some (.ref a_period_of)
  F_period_of : FunD K "period_of" "period_of" (defArgs s_period_of) (defBody s_period_of) (defScope s_period_of) [] [("calendar", .ref a_CALENDAR)] a_period_of fd_period_of
  a_noted : Addr
  fd_noted : FuncData
  g_noted : mg "noted" = some (.ref a_noted)
  F_noted : FunD K "noted" "noted" (defArgs s_noted) (defBody s_noted) (defScope s_noted) [] [] a_noted fd_noted
  a_units_on : Addr
  fd_units_on : FuncData
  g_units_on : mg "units_on" = some (.ref a_units_on)
  F_units_on : FunD K "units_on" "units_on" (defArgs s_units_on) (defBody s_units_on) (defScope s_units_on) [] [] a_units_on fd_units_on
  a_units_ahead : Addr
  fd_units_ahead : FuncData
  g_units_ahead : mg "units_ahead" = some (.ref a_units_ahead)
  F_units_ahead : FunD K "units_ahead" "units_ahead" (defArgs s_units_ahead) (defBody s_units_ahead) (defScope s_units_ahead) [] [] a_units_ahead fd_units_ahead
  a_coins_on : Addr
  fd_coins_on : FuncData
  g_coins_on : mg "coins_on" = some (.ref a_coins_on)
  F_coins_on : FunD K "coins_on" "coins_on" (defArgs s_coins_on) (defBody s_coins_on) (defScope s_coins_on) [] [] a_coins_on fd_coins_on
  a_bill_of : Addr
  fd_bill_of : FuncData
  g_bill_of : mg "bill_of" = some (.ref a_bill_of)
  F_bill_of : FunD K "bill_of" "bill_of" (defArgs s_bill_of) (defBody s_bill_of) (defScope s_bill_of) [] [("calendar", .ref a_CALENDAR)] a_bill_of fd_bill_of
  a_bills_until : Addr
  fd_bills_until : FuncData
  g_bills_until : mg "bills_until" = some (.ref a_bills_until)
  F_bills_until : FunD K "bills_until" "bills_until" (defArgs s_bills_until) (defBody s_bills_until) (defScope s_bills_until) [] [("calendar", .ref a_CALENDAR)] a_bills_until fd_bills_until
  a_law_tap : Addr
  fd_law_tap : FuncData
  g_law_tap : mg "_law_tap" = some (.ref a_law_tap)
  F_law_tap : FunD K "_law_tap" "_law_tap" (defArgs s_law_tap) (defBody s_law_tap) (defScope s_law_tap) [] [] a_law_tap fd_law_tap
  a_law_pick : Addr
  fd_law_pick : FuncData
  g_law_pick : mg "_law_pick" = some (.ref a_law_pick)
  F_law_pick : FunD K "_law_pick" "_law_pick" (defArgs s_law_pick) (defBody s_law_pick) (defScope s_law_pick) [] [] a_law_pick fd_law_pick
  a_law_great : Addr
  fd_law_great : FuncData
  g_law_great : mg "_law_great" = some (.ref a_law_great)
  F_law_great : FunD K "_law_great" "_law_great" (defArgs s_law_great) (defBody s_law_great) (defScope s_law_great) [] [] a_law_great fd_law_great
  a_law_tiers : Addr
  fd_law_tiers : FuncData
  g_law_tiers : mg "_law_tiers" = some (.ref a_law_tiers)
  F_law_tiers : FunD K "_law_tiers" "_law_tiers" (defArgs s_law_tiers) (defBody s_law_tiers) (defScope s_law_tiers) [] [] a_law_tiers fd_law_tiers
  a_law_finer : Addr
  fd_law_finer : FuncData
  g_law_finer : mg "_law_finer" = some (.ref a_law_finer)
  F_law_finer : FunD K "_law_finer" "_law_finer" (defArgs s_law_finer) (defBody s_law_finer) (defScope s_law_finer) [] [] a_law_finer fd_law_finer
  a_law_parted_right : Addr
  fd_law_parted_right : FuncData
  g_law_parted_right : mg "_law_parted_right" = some (.ref a_law_parted_right)
  F_law_parted_right : FunD K "_law_parted_right" "_law_parted_right" (defArgs s_law_parted_right) (defBody s_law_parted_right) (defScope s_law_parted_right) [] [] a_law_parted_right fd_law_parted_right
  a_law_days_right : Addr
  fd_law_days_right : FuncData
  g_law_days_right : mg "_law_days_right" = some (.ref a_law_days_right)
  F_law_days_right : FunD K "_law_days_right" "_law_days_right" (defArgs s_law_days_right) (defBody s_law_days_right) (defScope s_law_days_right) [] [] a_law_days_right fd_law_days_right
  a_law : Addr
  fd_law : FuncData
  g_law : mg "law" = some (.ref a_law)
  F_law : FunD K "law" "law" (defArgs s_law) (defBody s_law) (defScope s_law) [] [] a_law fd_law
section
variable {P : Program} {w : World} {K : PySem.W.Frag} {mg : Str → Option Value} {base : Heap}
theorem bi_is_whole (T : Txt K mg w) : Binds K T.fd_is_whole ["thing"] [] := T.F_is_whole.bindsN fun _ _ _ _ _ _ us hl => match us, hl with | [_], _ => rfl
theorem bi_is_number (T : Txt K mg w) : Binds K T.fd_is_number ["thing"] [] := T.F_is_number.bindsN fun _ _ _ _ _ _ us hl => match us, hl with | [_], _ => rfl
theorem bi_is_tuple_of (T : Txt K mg w) : Binds K T.fd_is_tuple_of ["thing", "many"] [] := T.F_is_tuple_of.bindsN fun _ _ _ _ _ _ us hl => match us, hl with | [_, _], _ => rfl
theorem bi_are_rising (T : Txt K mg w) : Binds K T.fd_are_rising ["things"] [] := T.F_are_rising.bindsN fun _ _ _ _ _ _ us hl => match us, hl with | [_], _ => rfl
theorem bi_is_kind (T : Txt K mg w) : Binds K T.fd_is_kind ["thing"] [] := T.F_is_kind.bindsN fun _ _ _ _ _ _ us hl => match us, hl with | [_], _ => rfl
theorem bi_is_tier (T : Txt K mg w) : Binds K T.fd_is_tier ["thing"] [] := T.F_is_tier.bindsN fun _ _ _ _ _ _ us hl => match us, hl with | [_], _ => rfl
theorem bi_are_tiers (T : Txt K mg w) : Binds K T.fd_are_tiers ["thing"] [] := T.F_are_tiers.bindsN fun _ _ _ _ _ _ us hl => match us, hl with | [_], _ => rfl
theorem bi_is_price (T : Txt K mg w) : Binds K T.fd_is_price ["thing"] [] := T.F_is_price.bindsN fun _ _ _ _ _ _ us hl => match us, hl with | [_], _ => rfl
theorem bi_is_prices (T : Txt K mg w) : Binds K T.fd_is_prices ["thing"] [] := T.F_is_prices.bindsN fun _ _ _ _ _ _ us hl => match us, hl with | [_], _ => rfl
theorem bi_tiers_of (T : Txt K mg w) : Binds K T.fd_tiers_of ["prices", "kind"] [] := T.F_tiers_of.bindsN fun _ _ _ _ _ _ us hl => match us, hl with | [_, _], _ => rfl
theorem kb_cost_2_ahead (T : Txt K mg w) : KBn K T.fd_cost ["tiers", "units", "ahead"] 2 ["ahead"] (fun us ws => sel [0, 1, 2] (us ++ ws)) (fun us ws => sel [0, 1, 2] (us ++ ws)) := kbn_sel [0, 1, 2] T.F_cost fun _ _ _ _ _ _ us ws h1 h2 => match us, ws, h1, h2 with | [_, _], [_], _, _ => rfl
theorem bd_cost (T : Txt K mg w) : ∃ ds, Vals ([("ahead", .int 0)].map (·.2)) ds ∧ Binds K T.fd_cost ["tiers", "units", "ahead"] ds := T.F_cost.binds0 2 (by intro z; cases z) rfl fun D _ _ _ _ _ us ks h1 h2 => match us, ks, h1, h2 with | [_, _], [_], _, _ => ⟨_, _, _, _, _, _, rfl, rfl, rfl⟩
theorem dr_cost (T : Txt K mg w) (F : FS) (H : Hp) : RA K F H ([("ahead", .int 0)].map (·.2)) [(PyData.int (0))] := .cons (.int _) (.nil)
theorem kb_cost (T : Txt K mg w) : KBn K T.fd_cost ["tiers", "units", "ahead"] 2 ["ahead"] (fun us ws => us ++ ws) (fun us ws => us ++ ws) := kbn_all T.F_cost fun _ _ _ _ _ _ us ws h1 h2 => match us, ws, h1, h2 with | [_, _], [_], _, _ => rfl
theorem kb_period_of_1_calendar (T : Txt K mg w) : KBn K T.fd_period_of ["day", "calendar"] 1 ["calendar"] (fun us ws => sel [0, 1] (us ++ ws)) (fun us ws => sel [0, 1] (us ++ ws)) := kbn_sel [0, 1] T.F_period_of fun _ _ _ _ _ _ us ws h1 h2 => match us, ws, h1, h2 with | [_], [_], _, _ => rfl
theorem bd_period_of (T : Txt K mg w) : ∃ ds, Vals ([("calendar", .ref T.a_CALENDAR)].map (·.2)) ds ∧ Binds K T.fd_period_of ["day", "calendar"] ds := T.F_period_of.binds0 1 (by intro z; cases z) rfl fun D _ _ _ _ _ us ks h1 h2 => match us, ks, h1, h2 with | [_], [_], _, _ => ⟨_, _, _, _, _, _, rfl, rfl, rfl⟩
theorem dr_period_of (T : Txt K mg w) (F : FS) (H : Hp) : RA K F H ([("calendar", .ref T.a_CALENDAR)].map (·.2)) [(PyData.tuple [(PyData.int (5)), (PyData.int (4))])] := .cons (T.r_CALENDAR F H) (.nil)
theorem kb_period_of (T : Txt K mg w) : KBn K T.fd_period_of ["day", "calendar"] 1 ["calendar"] (fun us ws => us ++ ws) (fun us ws => us ++ ws) := kbn_all T.F_period_of fun _ _ _ _ _ _ us ws h1 h2 => match us, ws, h1, h2 with | [_], [_], _, _ => rfl
theorem bi_noted (T : Txt K mg w) : Binds K T.fd_noted ["notes", "day", "kind", "units"] [] := T.F_noted.bindsN fun _ _ _ _ _ _ us hl => match us, hl with | [_, _, _, _], _ => rfl
theorem bi_units_on (T : Txt K mg w) : Binds K T.fd_units_on ["notes", "day", "kind"] [] := T.F_units_on.bindsN fun _ _ _ _ _ _ us hl => match us, hl with | [_, _, _], _ => rfl
theorem bi_units_ahead (T : Txt K mg w) : Binds K T.fd_units_ahead ["notes", "day", "kind", "calendar"] [] := T.F_units_ahead.bindsN fun _ _ _ _ _ _ us hl => match us, hl with | [_, _, _, _], _ => rfl
theorem kb_coins_on_3_prices_calendar (T : Txt K mg w) : KBn K T.fd_coins_on ["notes", "day", "kind", "prices", "calendar"] 3 ["prices", "calendar"] (fun us ws => sel [0, 1, 2, 3, 4] (us ++ ws)) (fun us ws => sel [0, 1, 2, 3, 4] (us ++ ws)) := kbn_sel [0, 1, 2, 3, 4] T.F_coins_on fun _ _ _ _ _ _ us ws h1 h2 => match us, ws, h1, h2 with | [_, _, _], [_, _], _, _ => rfl
theorem kb_coins_on (T : Txt K mg w) : KBn K T.fd_coins_on ["notes", "day", "kind", "prices", "calendar"] 3 ["prices", "calendar"] (fun us ws => us ++ ws) (fun us ws => us ++ ws) := kbn_all T.F_coins_on fun _ _ _ _ _ _ us ws h1 h2 => match us, ws, h1, h2 with | [_, _, _], [_, _], _, _ => rfl
theorem kb_bill_of_2_prices_calendar (T : Txt K mg w) : KBn K T.fd_bill_of ["notes", "day", "prices", "calendar"] 2 ["prices", "calendar"] (fun us ws => sel [0, 1, 2, 3] (us ++ ws)) (fun us ws => sel [0, 1, 2, 3] (us ++ ws)) := kbn_sel [0, 1, 2, 3] T.F_bill_of fun _ _ _ _ _ _ us ws h1 h2 => match us, ws, h1, h2 with | [_, _], [_, _], _, _ => rfl
theorem kb_bill_of (T : Txt K mg w) : KBn K T.fd_bill_of ["notes", "day", "prices", "calendar"] 2 ["prices", "calendar"] (fun us ws => us ++ ws) (fun us ws => us ++ ws) := kbn_all T.F_bill_of fun _ _ _ _ _ _ us ws h1 h2 => match us, ws, h1, h2 with | [_, _], [_, _], _, _ => rfl
theorem kb_bills_until_2_prices_calendar (T : Txt K mg w) : KBn K T.fd_bills_until ["notes", "until", "prices", "calendar"] 2 ["prices", "calendar"] (fun us ws => sel [0, 1, 2, 3] (us ++ ws)) (fun us ws => sel [0, 1, 2, 3] (us ++ ws)) := kbn_sel [0, 1, 2, 3] T.F_bills_until fun _ _ _ _ _ _ us ws h1 h2 => match us, ws, h1, h2 with | [_, _], [_, _], _, _ => rfl
theorem kb_bills_until (T : Txt K mg w) : KBn K T.fd_bills_until ["notes", "until", "prices", "calendar"] 2 ["prices", "calendar"] (fun us ws => us ++ ws) (fun us ws => us ++ ws) := kbn_all T.F_bills_until fun _ _ _ _ _ _ us ws h1 h2 => match us, ws, h1, h2 with | [_, _], [_, _], _, _ => rfl
theorem bi_law_tap (T : Txt K mg w) : Binds K T.fd_law_tap ["_law_script"] [] := T.F_law_tap.bindsN fun _ _ _ _ _ _ us hl => match us, hl with | [_], _ => rfl
theorem bi_law_pick (T : Txt K mg w) : Binds K T.fd_law_pick ["_law_tap_here", "_law_many"] [] := T.F_law_pick.bindsN fun _ _ _ _ _ _ us hl => match us, hl with | [_, _], _ => rfl
theorem bi_law_great (T : Txt K mg w) : Binds K T.fd_law_great ["_law_tap_here"] [] := T.F_law_great.bindsN fun _ _ _ _ _ _ us hl => match us, hl with | [_], _ => rfl
theorem bi_law_tiers (T : Txt K mg w) : Binds K T.fd_law_tiers ["_law_tap_here"] [] := T.F_law_tiers.bindsN fun _ _ _ _ _ _ us hl => match us, hl with | [_], _ => rfl
theorem bi_law_finer (T : Txt K mg w) : Binds K T.fd_law_finer ["_law_tap_here", "_law_tiers_here"] [] := T.F_law_finer.bindsN fun _ _ _ _ _ _ us hl => match us, hl with | [_, _], _ => rfl
theorem bi_law_parted_right (T : Txt K mg w) : Binds K T.fd_law_parted_right ["_law_tap_here", "_law_tiers_here"] [] := T.F_law_parted_right.bindsN fun _ _ _ _ _ _ us hl => match us, hl with | [_, _], _ => rfl
theorem bi_law_days_right (T : Txt K mg w) : Binds K T.fd_law_days_right ["_law_tap_here", "_law_tiers_here"] [] := T.F_law_days_right.bindsN fun _ _ _ _ _ _ us hl => match us, hl with | [_, _], _ => rfl
theorem bi_law (T : Txt K mg w) : Binds K T.fd_law ["_law_script"] [] := T.F_law.bindsN fun _ _ _ _ _ _ us hl => match us, hl with | [_], _ => rfl
def t_is_whole : TVS := (vRet (vAndV (vIsi "int" (vVar 0)) (vNotV (vIsi "bool" (vVar 0)))))
def m_is_whole : TF := vDef 1 t_is_whole
theorem e_is_whole : m_is_whole = vDef 1 (vRet (vAndV (vIsi "int" (vVar 0)) (vNotV (vIsi "bool" (vVar 0))))) := rfl
set_option maxHeartbeats 4000000 in
theorem ok_is_whole (T : Txt K mg w) : GOk P w K mg base CX0 1 T.a_is_whole T.fd_is_whole ["thing"] (spOf K 1 0 m_is_whole) := by
  refine def_bodyD T.F_is_whole sc_is_whole fun f cdv A outer s H E hr gd => ?_
  exact ex_k (vss_one (vs_ret (ve_and (ve_isi (fun te he => pe_callB call_isi (by rfl) T.b_isinstance (by decide +kernel) (pa_cons he (pa_cons (pe_bltn (v := .ty "int") (by rfl) T.b_int (by decide +kernel) rfl) pa_nil))) tok_int (.ty _) (ve_var (pv 0))) (ve_one (ve_not (ve_isi (fun te he => pe_callB call_isi (by rfl) T.b_isinstance (by decide +kernel) (pa_cons he (pa_cons (pe_bltn (v := .ty "bool") (by rfl) T.b_bool (by decide +kernel) rfl) pa_nil))) tok_bool (.ty _) (ve_var (pv 0)))))))) (by omega)
def t_is_tuple_of : TVS := (vRet (vAndV (vIsi "tuple" (vVar 0)) (vBin (fEq false) (vCB fLen (vCons (vVar 0) vNil)) (vVar 1))))
def m_is_tuple_of : TF := vDef 2 t_is_tuple_of
theorem e_is_tuple_of : m_is_tuple_of = vDef 2 (vRet (vAndV (vIsi "tuple" (vVar 0)) (vBin (fEq false) (vCB fLen (vCons (vVar 0) vNil)) (vVar 1)))) := rfl
set_option maxHeartbeats 4000000 in
theorem ok_is_tuple_of (T : Txt K mg w) : GOk P w K mg base CX0 1 T.a_is_tuple_of T.fd_is_tuple_of ["thing", "many"] (spOf K 2 0 m_is_tuple_of) := by
  refine def_bodyD T.F_is_tuple_of sc_is_tuple_of fun f cdv A outer s H E hr gd => ?_
  exact ex_k (vss_one (vs_ret (ve_and (ve_isi (fun te he => pe_callB call_isi (by rfl) T.b_isinstance (by decide +kernel) (pa_cons he (pa_cons (pe_bltn (v := .ty "tuple") (by rfl) T.b_tuple (by decide +kernel) rfl) pa_nil))) tok_tuple (.ty _) (ve_var (pv 0))) (ve_one (ve_cmp (op_eqAll (hu64 hr)) ops_eq (ve_cb (fun ta ha => pe_callB call_lenA (by rfl) T.b_len (by decide +kernel) ha) cs_len (va_cons (ve_var (pv 0)) va_nil (by rfl))) (ve_var (pv 1)) (nomark _)))))) (by omega)
def t_are_rising : TVS := (vRet (vCB fAll (vCons (vLc (vRng1 (vCons (vBin fSub (vCB fLen (vCons (vVar 0) vNil)) (vC (.int 1))) vNil)) (vgName 1) (fun _ Q => Q true) (vBin fLtD (vBin fIx (vVar 0) (vVar 1)) (vBin fIx (vVar 0) (vBin fAdd (vVar 1) (vC (.int 1))))) [1]) vNil)))
def m_are_rising : TF := vDef 2 t_are_rising
theorem e_are_rising : m_are_rising = vDef 2 (vRet (vCB fAll (vCons (vLc (vRng1 (vCons (vBin fSub (vCB fLen (vCons (vVar 0) vNil)) (vC (.int 1))) vNil)) (vgName 1) (fun _ Q => Q true) (vBin fLtD (vBin fIx (vVar 0) (vVar 1)) (vBin fIx (vVar 0) (vBin fAdd (vVar 1) (vC (.int 1))))) [1]) vNil))) := rfl
set_option maxHeartbeats 4000000 in
theorem ok_are_rising (T : Txt K mg w) : GOk P w K mg base CX0 1 T.a_are_rising T.fd_are_rising ["things"] (spOf K 1 0 m_are_rising) := by
  refine def_bodyD T.F_are_rising sc_are_rising fun f cdv A outer s H E hr gd => ?_
  exact ex_k (vss_one (vs_ret (ve_cb (fun ta ha => pe_callB (cr_all rfl) (by rfl) T.b_all (by decide +kernel) ha) cs_all (va_cons (ve_lc (fun _ _ _ _ a b c d => pe_lc (own := [("k", 1)]) rfl sc_are_rising.nd a (blkOk_by (own := [("k", 1)]) (N := N_are_rising) (sc := defScope s_are_rising) (by decide +kernel)) b c d) (vi_range1 (fun ta ha => pi_range1 (by rfl) T.b_range ha) (va_cons (ve_bin op_subA ops_sub (ve_cb (fun ta ha => pe_callB call_lenA (by rfl) T.b_len (by decide +kernel) ha) cs_len (va_cons (ve_var (pv 0)) va_nil (by rfl))) ve_int) va_nil (by rfl))) (fun _ _ _ _ _ => (vtg_name (pg_name (i := 1) sc_are_rising.nd rfl (Or.inl rfl)))) (fun _ _ _ _ _ => vts_nil) (fun _ _ _ _ _ => (ve_cmp (op_ltAll hr) ops_ltAll (ve_ix ix_seq ops_ix (ve_var (pv 0)) (ve_var (pv 1)) (fun _ _ => rfl)) (ve_ix ix_seq ops_ix (ve_var (pv 0)) (ve_bin op_addAll ops_add (ve_var (pv 1)) ve_int) (fun _ _ => rfl)) (nomark _))) (by decide)) va_nil (by rfl))))) (by omega)
def t_is_kind : TVS := (vRet (vBin (fInD false) (vVar 0) (vC (PyData.tuple [(PyData.str "letters"), (PyData.str "room"), (PyData.str "steps")]))))
def m_is_kind : TF := vDef 1 t_is_kind
theorem e_is_kind : m_is_kind = vDef 1 (vRet (vBin (fInD false) (vVar 0) (vC (PyData.tuple [(PyData.str "letters"), (PyData.str "room"), (PyData.str "steps")])))) := rfl
set_option maxHeartbeats 4000000 in
theorem ok_is_kind (T : Txt K mg w) : GOk P w K mg base CX0 1 T.a_is_kind T.fd_is_kind ["thing"] (spOf K 1 0 m_is_kind) := by
  refine def_bodyD T.F_is_kind sc_is_kind fun f cdv A outer s H E hr gd => ?_
  exact ex_k (vss_one (vs_ret (ve_cmp (op_in_sign.or (op_inD hr)) ops_inD (ve_var (pv 0)) (ve_c (pe_glob (v := .ref T.a_KINDS) (by rfl) T.g_KINDS rfl) fun F H => T.r_KINDS F H) (by rfl)))) (by omega)
def t_tiers_of : TVS := (vRet (vGet2 (vCB fDictO (vCons (vVar 0) vNil)) (vVar 1) (vTup vNil)))
def m_tiers_of : TF := vDef 2 t_tiers_of
theorem e_tiers_of : m_tiers_of = vDef 2 (vRet (vGet2 (vCB fDictO (vCons (vVar 0) vNil)) (vVar 1) (vTup vNil))) := rfl
set_option maxHeartbeats 4000000 in
theorem ok_tiers_of (T : Txt K mg w) : GOk P w K mg base CX0 1 T.a_tiers_of T.fd_tiers_of ["prices", "kind"] (spOf K 2 0 m_tiers_of) := by
  refine def_bodyD T.F_tiers_of sc_tiers_of fun f cdv A outer s H E hr gd => ?_
  exact ex_k (vss_one (vs_ret (ve_get2 (hu_of hr) (ve_cb (fun ta ha => pe_callTy (call_dictQ rfl) (by rfl) T.b_dict (by decide +kernel) ha) cs_dictO (va_cons (ve_var (pv 0)) va_nil (by rfl))) (ve_var (pv 1)) (ve_tup va_nil) ⟨rfl, rfl, rfl, rfl⟩))) (by omega)
def b_cost_0 : TVS := (vAug 3 (· + ·) (vBin fMul (vVar 7) (vCB fMax2 (vCons (vC (.int 0)) (vCons (vBin fSub (vVar 5) (vCB fMax2 (vCons (vVar 6) (vCons (vVar 2) vNil)))) vNil)))))
def b_cost_1 : TVS := (vSeq (vIfS (vTest (vBin fLtD (vBin fAdd (vVar 4) (vC (.int 1))) (vCB fLen (vCons (vVar 0) vNil)))) (vAsg 5 (vCB fMin2 (vCons (vVar 5) (vCons (vBin fIx (vBin fIx (vVar 0) (vBin fAdd (vVar 4) (vC (.int 1)))) (vC (.int 0))) vNil)))) vNext)
  b_cost_0)
def b_cost_2 : TVS := (vSeq (vAsg 5 (vBin fAdd (vVar 2) (vVar 1)))
  b_cost_1)
def b_cost_3 : TVS := (vRet (vVar 3))
def b_cost_4 : TVS := (vSeq (vFor (vEnum (vCons (vVar 0) vNil)) (vgTup 2 (vgCons (vgName 4) (vgCons (vgTup 2 (vgCons (vgName 6) (vgCons (vgName 7) vgNil))) vgNil)))
  b_cost_2)
  b_cost_3)
def b_cost_5 : TVS := (vSeq (vAsg 3 (vC (.int 0)))
  b_cost_4)
def t_cost : TVS := (vSeq (vAsg 3 (vC (.int 0)))
  (vSeq (vFor (vEnum (vCons (vVar 0) vNil)) (vgTup 2 (vgCons (vgName 4) (vgCons (vgTup 2 (vgCons (vgName 6) (vgCons (vgName 7) vgNil))) vgNil)))
  (vSeq (vAsg 5 (vBin fAdd (vVar 2) (vVar 1)))
  (vSeq (vIfS (vTest (vBin fLtD (vBin fAdd (vVar 4) (vC (.int 1))) (vCB fLen (vCons (vVar 0) vNil)))) (vAsg 5 (vCB fMin2 (vCons (vVar 5) (vCons (vBin fIx (vBin fIx (vVar 0) (vBin fAdd (vVar 4) (vC (.int 1)))) (vC (.int 0))) vNil)))) vNext)
  (vAug 3 (· + ·) (vBin fMul (vVar 7) (vCB fMax2 (vCons (vC (.int 0)) (vCons (vBin fSub (vVar 5) (vCB fMax2 (vCons (vVar 6) (vCons (vVar 2) vNil)))) vNil))))))))
  (vRet (vVar 3))))
def m_cost : TF := vDef 8 t_cost
theorem e_cost : m_cost = vDef 8 b_cost_5 := rfl
set_option maxHeartbeats 4000000 in
theorem ok_cost (T : Txt K mg w) : GOk P w K mg base CX0 1 T.a_cost T.fd_cost ["tiers", "units", "ahead"] (spOf K 3 0 m_cost) := by
  refine def_bodyD T.F_cost sc_cost fun f cdv A outer s H E hr gd => ?_
  exact ex_k (vss_cons (vs_asg (fun te he => ps_set (i := 3) sc_cost.nd rfl (Or.inl rfl) he) ve_int)
  (vss_cons (vs_for (fun _ _ _ a b c => ps_for PassesOwn.never rfl a b c) (vi_enum (fun ta ha => pi_enumA (by rfl) T.b_enumerate ha) (va_cons (ve_var (pv 0)) va_nil (by rfl))) (vtg_tup rfl (vtgs_cons (vtg_name (pg_name (i := 4) sc_cost.nd rfl (Or.inl rfl))) (vtgs_cons (vtg_tup rfl (vtgs_cons (vtg_name (pg_name (i := 6) sc_cost.nd rfl (Or.inl rfl))) (vtgs_cons (vtg_name (pg_name (i := 7) sc_cost.nd rfl (Or.inl rfl))) vtgs_nil (fun _ _ a b => pgs_cons a b)) (fun _ _ a b => pgs_cons a b)) (by rfl) (by rfl)) vtgs_nil (fun _ _ a b => pgs_cons a b)) (fun _ _ a b => pgs_cons a b)) (by rfl) (by rfl))
  (vss_cons (vs_asg (fun te he => ps_set (i := 5) sc_cost.nd rfl (Or.inl rfl) he) (ve_bin op_addAll ops_add (ve_var (pv 2)) (ve_var (pv 1))))
  (vss_cons (vs_if (vt_cmp (op_ltAll hr) ops_ltAll (ve_bin op_addAll ops_add (ve_var (pv 4)) ve_int) (ve_cb (fun ta ha => pe_callB call_lenA (by rfl) T.b_len (by decide +kernel) ha) cs_len (va_cons (ve_var (pv 0)) va_nil (by rfl))) (nomark _)) (vss_one (vs_asg (fun te he => ps_set (i := 5) sc_cost.nd rfl (Or.inl rfl) he) (ve_cb (fun ta ha => pe_callB (call_min2 rfl) (by rfl) T.b_min (by decide +kernel) ha) cs_i2 (va_cons (ve_var (pv 5)) (va_cons (ve_ix ix_seq ops_ix (ve_ix ix_seq ops_ix (ve_var (pv 0)) (ve_bin op_addAll ops_add (ve_var (pv 4)) ve_int) (fun _ _ => rfl)) ve_int (fun _ _ => rfl)) va_nil (by rfl)) (by rfl))))) vss_nil)
  (vss_one (vs_aug (f := (· + ·)) (fun te he => ps_aug (i := 3) sc_cost.nd rfl (Or.inl rfl) he ip_add) (ve_bin op_mulA ops_mul (ve_var (pv 7)) (ve_cb (fun ta ha => pe_callB (call_max2 rfl) (by rfl) T.b_max (by decide +kernel) ha) cs_i2 (va_cons ve_int (va_cons (ve_bin op_subA ops_sub (ve_var (pv 5)) (ve_cb (fun ta ha => pe_callB (call_max2 rfl) (by rfl) T.b_max (by decide +kernel) ha) cs_i2 (va_cons (ve_var (pv 6)) (va_cons (ve_var (pv 2)) va_nil (by rfl)) (by rfl)))) va_nil (by rfl)) (by rfl)))))))))
  (vss_one (vs_ret (ve_var (pv 3)))))) (by omega)
def t_period_of : TVS := (vRet (vBin fDiv (vVar 0) (vBin fIx (vVar 1) (vC (.int 1)))))
def m_period_of : TF := vDef 2 t_period_of
theorem e_period_of : m_period_of = vDef 2 (vRet (vBin fDiv (vVar 0) (vBin fIx (vVar 1) (vC (.int 1))))) := rfl
set_option maxHeartbeats 4000000 in
theorem ok_period_of (T : Txt K mg w) : GOk P w K mg base CX0 1 T.a_period_of T.fd_period_of ["day", "calendar"] (spOf K 2 0 m_period_of) := by
  refine def_bodyD T.F_period_of sc_period_of fun f cdv A outer s H E hr gd => ?_
  exact ex_k (vss_one (vs_ret (ve_bin op_fdivW ops_div (ve_var (pv 0)) (ve_ix ix_seq ops_ix (ve_var (pv 1)) ve_int (fun _ _ => rfl))))) (by omega)
def b_noted_0 : TVS := (vRet (vCB fTuple (vCons (vCB fSorted (vCons (vBin fAdd (vVar 4) (vLst (vCons (vTup (vCons (vVar 1) (vCons (vVar 2) (vCons (vVar 5) vNil)))) vNil))) vNil)) vNil)))
def b_noted_1 : TVS := (vSeq (vIfS (vTest (vBin (fEq false) (vVar 5) (vC (.int 0)))) (vRet (vCB fTuple (vCons (vVar 4) vNil))) vNext)
  b_noted_0)
def b_noted_2 : TVS := (vSeq (vAsg 5 (vBin fAdd (vVar 3) (vCB fSumQ (vCons (vLc (vSeqI (vVar 0)) (vgName 6) (vTest (vBin (fEq false) (vSl (vVar 6) (fun _ Q => Q none) (vSome (vC (.int 2)))) (vTup (vCons (vVar 1) (vCons (vVar 2) vNil))))) (vBin fIx (vVar 6) (vC (.int 2))) [6]) vNil))))
  b_noted_1)
def b_noted_3 : TVS := (vSeq (if false = true then vAsgO 4 (vLc (vSeqI (vVar 0)) (vgName 6) (vTest (vBin (fEq true) (vSl (vVar 6) (fun _ Q => Q none) (vSome (vC (.int 2)))) (vTup (vCons (vVar 1) (vCons (vVar 2) vNil))))) (vVar 6) [6]) else vAsg 4 (vLc (vSeqI (vVar 0)) (vgName 6) (vTest (vBin (fEq true) (vSl (vVar 6) (fun _ Q => Q none) (vSome (vC (.int 2)))) (vTup (vCons (vVar 1) (vCons (vVar 2) vNil))))) (vVar 6) [6]))
  b_noted_2)
def t_noted : TVS := (vSeq (if false = true then vAsgO 4 (vLc (vSeqI (vVar 0)) (vgName 6) (vTest (vBin (fEq true) (vSl (vVar 6) (fun _ Q => Q none) (vSome (vC (.int 2)))) (vTup (vCons (vVar 1) (vCons (vVar 2) vNil))))) (vVar 6) [6]) else vAsg 4 (vLc (vSeqI (vVar 0)) (vgName 6) (vTest (vBin (fEq true) (vSl (vVar 6) (fun _ Q => Q none) (vSome (vC (.int 2)))) (vTup (vCons (vVar 1) (vCons (vVar 2) vNil))))) (vVar 6) [6]))
  (vSeq (vAsg 5 (vBin fAdd (vVar 3) (vCB fSumQ (vCons (vLc (vSeqI (vVar 0)) (vgName 6) (vTest (vBin (fEq false) (vSl (vVar 6) (fun _ Q => Q none) (vSome (vC (.int 2)))) (vTup (vCons (vVar 1) (vCons (vVar 2) vNil))))) (vBin fIx (vVar 6) (vC (.int 2))) [6]) vNil))))
  (vSeq (vIfS (vTest (vBin (fEq false) (vVar 5) (vC (.int 0)))) (vRet (vCB fTuple (vCons (vVar 4) vNil))) vNext)
  (vRet (vCB fTuple (vCons (vCB fSorted (vCons (vBin fAdd (vVar 4) (vLst (vCons (vTup (vCons (vVar 1) (vCons (vVar 2) (vCons (vVar 5) vNil)))) vNil))) vNil)) vNil))))))
def m_noted : TF := vDef 7 t_noted
theorem e_noted : m_noted = vDef 7 b_noted_3 := rfl
set_option maxHeartbeats 4000000 in
theorem ok_noted (T : Txt K mg w) : GOk P w K mg base CX0 1 T.a_noted T.fd_noted ["notes", "day", "kind", "units"] (spOf K 4 0 m_noted) := by
  refine def_bodyD T.F_noted sc_noted fun f cdv A outer s H E hr gd => ?_
  exact ex_k (vss_cons (vs_setLc false (fun _ _ _ _ a b c d => ps_setLc (own := [("note", 6)]) rfl sc_noted.nd rfl rfl (sw_true rfl rfl rfl (by decide +kernel)) a (blkOk_by (own := [("note", 6)]) (N := N_noted) (sc := defScope s_noted) (by decide +kernel)) b c d) (vi_seq (ve_var (pv 0))) (fun _ _ _ _ _ => (vtg_name (pg_name (i := 6) sc_noted.nd rfl (Or.inl rfl)))) (fun _ _ _ _ _ => (vts_one (vt_cmp (op_neAll (hu64 hr)) ops_ne (ve_sl (ve_var (pv 6)) vo_none (vo_some ve_int)) (ve_tup (va_cons (ve_var (pv 1)) (va_cons (ve_var (pv 2)) va_nil (by rfl)) (by rfl))) (nomark _)))) (fun _ _ _ _ _ => (ve_var (pv 6))) (by decide))
  (vss_cons (vs_asg (fun te he => ps_set (i := 5) sc_noted.nd rfl (Or.inl rfl) he) (ve_bin op_addAll ops_add (ve_var (pv 3)) (ve_cb (fun ta ha => pe_callB (cr_sumQ rfl) (by rfl) T.b_sum (by decide +kernel) ha) cs_sumQ (va_cons (ve_lc (fun _ _ _ _ a b c d => pe_lc (own := [("note", 6)]) rfl sc_noted.nd a (blkOk_by (own := [("note", 6)]) (N := N_noted) (sc := defScope s_noted) (by decide +kernel)) b c d) (vi_seq (ve_var (pv 0))) (fun _ _ _ _ _ => (vtg_name (pg_name (i := 6) sc_noted.nd rfl (Or.inl rfl)))) (fun _ _ _ _ _ => (vts_one (vt_cmp (op_eqAll (hu64 hr)) ops_eq (ve_sl (ve_var (pv 6)) vo_none (vo_some ve_int)) (ve_tup (va_cons (ve_var (pv 1)) (va_cons (ve_var (pv 2)) va_nil (by rfl)) (by rfl))) (nomark _)))) (fun _ _ _ _ _ => (ve_ix ix_seq ops_ix (ve_var (pv 6)) ve_int (fun _ _ => rfl))) (by decide)) va_nil (by rfl)))))
  (vss_cons (vs_if (vt_cmp (op_eqAll (hu64 hr)) ops_eq (ve_var (pv 5)) ve_int (nomark _)) (vss_one (vs_ret (ve_cb (fun ta ha => pe_callTy call_tupOfN (by rfl) T.b_tuple (by decide +kernel) ha) cs_tuple (va_cons (ve_var (pv 4)) va_nil (by rfl))))) vss_nil)
  (vss_one (vs_ret (ve_cb (fun ta ha => pe_callTy call_tupOfN (by rfl) T.b_tuple (by decide +kernel) ha) cs_tuple (va_cons (ve_cb (fun ta ha => pe_callB (cr_sortedA hr) (by rfl) T.b_sorted (by decide +kernel) ha) cs_sorted (va_cons (ve_bin op_addAll ops_add (ve_var (pv 4)) (ve_lst (va_cons (ve_tup (va_cons (ve_var (pv 1)) (va_cons (ve_var (pv 2)) (va_cons (ve_var (pv 5)) va_nil (by rfl)) (by rfl)) (by rfl))) va_nil (by rfl)))) va_nil (by rfl))) va_nil (by rfl)))))))) (by omega)
def t_units_on : TVS := (vRet (vCB fSumQ (vCons (vLc (vSeqI (vVar 0)) (vgName 3) (vTest (vBin (fEq false) (vSl (vVar 3) (fun _ Q => Q none) (vSome (vC (.int 2)))) (vTup (vCons (vVar 1) (vCons (vVar 2) vNil))))) (vBin fIx (vVar 3) (vC (.int 2))) [3]) vNil)))
def m_units_on : TF := vDef 4 t_units_on
theorem e_units_on : m_units_on = vDef 4 (vRet (vCB fSumQ (vCons (vLc (vSeqI (vVar 0)) (vgName 3) (vTest (vBin (fEq false) (vSl (vVar 3) (fun _ Q => Q none) (vSome (vC (.int 2)))) (vTup (vCons (vVar 1) (vCons (vVar 2) vNil))))) (vBin fIx (vVar 3) (vC (.int 2))) [3]) vNil))) := rfl
set_option maxHeartbeats 4000000 in
theorem ok_units_on (T : Txt K mg w) : GOk P w K mg base CX0 1 T.a_units_on T.fd_units_on ["notes", "day", "kind"] (spOf K 3 0 m_units_on) := by
  refine def_bodyD T.F_units_on sc_units_on fun f cdv A outer s H E hr gd => ?_
  exact ex_k (vss_one (vs_ret (ve_cb (fun ta ha => pe_callB (cr_sumQ rfl) (by rfl) T.b_sum (by decide +kernel) ha) cs_sumQ (va_cons (ve_lc (fun _ _ _ _ a b c d => pe_lc (own := [("note", 3)]) rfl sc_units_on.nd a (blkOk_by (own := [("note", 3)]) (N := N_units_on) (sc := defScope s_units_on) (by decide +kernel)) b c d) (vi_seq (ve_var (pv 0))) (fun _ _ _ _ _ => (vtg_name (pg_name (i := 3) sc_units_on.nd rfl (Or.inl rfl)))) (fun _ _ _ _ _ => (vts_one (vt_cmp (op_eqAll (hu64 hr)) ops_eq (ve_sl (ve_var (pv 3)) vo_none (vo_some ve_int)) (ve_tup (va_cons (ve_var (pv 1)) (va_cons (ve_var (pv 2)) va_nil (by rfl)) (by rfl))) (nomark _)))) (fun _ _ _ _ _ => (ve_ix ix_seq ops_ix (ve_var (pv 3)) ve_int (fun _ _ => rfl))) (by decide)) va_nil (by rfl))))) (by omega)
def t_law_tap : TVS := (vRet (vTap (vCons (vCB fList (vCons (vSl (vVar 0) (fun _ Q => Q none) (vSome (vC (.int 63)))) vNil)) (vCons (vC (.int 0)) (vCons (vC (.int 0)) (vCons (vC (.int 0)) vNil))))))
def m_law_tap : TF := vDef 1 t_law_tap
theorem e_law_tap : m_law_tap = vDef 1 (vRet (vTap (vCons (vCB fList (vCons (vSl (vVar 0) (fun _ Q => Q none) (vSome (vC (.int 63)))) vNil)) (vCons (vC (.int 0)) (vCons (vC (.int 0)) (vCons (vC (.int 0)) vNil)))))) := rfl
set_option maxHeartbeats 4000000 in
theorem ok_law_tap (T : Txt K mg w) : GOk P w K mg base CX0 1 T.a_law_tap T.fd_law_tap ["_law_script"] (spOf K 1 0 m_law_tap) := by
  refine def_bodyD T.F_law_tap sc_law_tap fun f cdv A outer s H E hr gd => ?_
  exact ex_k (vss_one (vs_ret (ve_tap (va_cons (ve_cb (fun ta ha => pe_callTy call_list_of (by rfl) T.b_list (by decide +kernel) ha) cs_list (va_cons (ve_sl (ve_var (pv 0)) vo_none (vo_some ve_int)) va_nil (by rfl))) (va_cons ve_int (va_cons ve_int (va_cons ve_int va_nil (by rfl)) (by rfl)) (by rfl)) (by rfl))))) (by omega)
def b_law_pick_0 : TVS := (vRet (vBin fMod (vVar 6) (vVar 1)))
def b_law_pick_1 : TVS := (vSeq (vTapSet 0 (vBin fDiv (vVar 6) (vVar 1)))
  b_law_pick_0)
def b_law_pick_2 : TVS := (vRet (vBin fMod (vVar 2) (vVar 1)))
def b_law_pick_3 : TVS := (vSeq (vTapSet 0 (vBin fDiv (vVar 2) (vVar 1)))
  b_law_pick_2)
def b_law_pick_4 : TVS := (vRet (vBin fMod (vBin fDiv (vVar 3) (vC (.int 64))) (vVar 1)))
def b_law_pick_5 : TVS := (vSeq (vAsg 3 (vBin fMod (vBin fPow (vBin fAdd (vBin fAdd (vVar 3) (vBin fMul (vBin fMod (vVar 2) (vC (.int 999983))) (vC (.int 3)))) (vVar 7)) (vC (.int 2))) (vC (.int 2147483549))))
  b_law_pick_4)
def b_law_pick_6 : TVS := (vSeq (vAsg 3 (vBin fMod (vBin fPow (vBin fAdd (vBin fAdd (vVar 3) (vBin fMul (vC (.int 5009999)) (vVar 7))) (vC (.int 5))) (vC (.int 2))) (vC (.int 2147483647))))
  b_law_pick_5)
def b_law_pick_7 : TVS := (vSeq (vAsg 3 (vBin fMod (vBin fPow (vBin fAdd (vBin fMod (vVar 2) (vC (.int 2147483549))) (vBin fMul (vC (.int 6100417)) (vBin fAdd (vVar 7) (vC (.int 3))))) (vC (.int 2))) (vC (.int 2147483629))))
  b_law_pick_6)
def b_law_pick_8 : TVS := (vSeq (vIfS (vAnd (vTest (vBin fGeA (vVar 2) (vBin fPow (vC (.int 10)) (vC (.int 18))))) (vTest (vBin fLtD (vVar 5) (vCB fLen (vCons (vVar 4) vNil))))) b_law_pick_3 vNext)
  b_law_pick_7)
def b_law_pick_9 : TVS := (vSeq (vAsg 2 (vIf (vTest (vBin (fEq true) (vVar 4) (vLst vNil))) (vBin fIx (vVar 4) (vBin fMod (vVar 5) (vCB fLen (vCons (vVar 4) vNil)))) (vC (.int 11))))
  b_law_pick_8)
def b_law_pick_10 : TVS := (vSeq (vTapSet 0 (vBin fAdd (vVar 5) (vC (.int 1))))
  b_law_pick_9)
def b_law_pick_11 : TVS := (vSeq (vIfS (vTest (vBin fGt (vVar 6) (vC (.int 0)))) b_law_pick_1 vNext)
  b_law_pick_10)
def b_law_pick_12 : TVS := (vSeq (vTapUT 0 (vgCons (vgName 4) (vgCons (vgName 5) (vgCons (vgName 6) (vgCons (vgName 7) vgNil)))) (vBin fAdd (vVar 7) (vC (.int 1))))
  b_law_pick_11)
def t_law_pick : TVS := (vSeq (vTapUT 0 (vgCons (vgName 4) (vgCons (vgName 5) (vgCons (vgName 6) (vgCons (vgName 7) vgNil)))) (vBin fAdd (vVar 7) (vC (.int 1))))
  (vSeq (vIfS (vTest (vBin fGt (vVar 6) (vC (.int 0)))) (vSeq (vTapSet 0 (vBin fDiv (vVar 6) (vVar 1)))
  (vRet (vBin fMod (vVar 6) (vVar 1)))) vNext)
  (vSeq (vTapSet 0 (vBin fAdd (vVar 5) (vC (.int 1))))
  (vSeq (vAsg 2 (vIf (vTest (vBin (fEq true) (vVar 4) (vLst vNil))) (vBin fIx (vVar 4) (vBin fMod (vVar 5) (vCB fLen (vCons (vVar 4) vNil)))) (vC (.int 11))))
  (vSeq (vIfS (vAnd (vTest (vBin fGeA (vVar 2) (vBin fPow (vC (.int 10)) (vC (.int 18))))) (vTest (vBin fLtD (vVar 5) (vCB fLen (vCons (vVar 4) vNil))))) (vSeq (vTapSet 0 (vBin fDiv (vVar 2) (vVar 1)))
  (vRet (vBin fMod (vVar 2) (vVar 1)))) vNext)
  (vSeq (vAsg 3 (vBin fMod (vBin fPow (vBin fAdd (vBin fMod (vVar 2) (vC (.int 2147483549))) (vBin fMul (vC (.int 6100417)) (vBin fAdd (vVar 7) (vC (.int 3))))) (vC (.int 2))) (vC (.int 2147483629))))
  (vSeq (vAsg 3 (vBin fMod (vBin fPow (vBin fAdd (vBin fAdd (vVar 3) (vBin fMul (vC (.int 5009999)) (vVar 7))) (vC (.int 5))) (vC (.int 2))) (vC (.int 2147483647))))
  (vSeq (vAsg 3 (vBin fMod (vBin fPow (vBin fAdd (vBin fAdd (vVar 3) (vBin fMul (vBin fMod (vVar 2) (vC (.int 999983))) (vC (.int 3)))) (vVar 7)) (vC (.int 2))) (vC (.int 2147483549))))
  (vRet (vBin fMod (vBin fDiv (vVar 3) (vC (.int 64))) (vVar 1)))))))))))
def m_law_pick : TF := vDef 8 t_law_pick
theorem e_law_pick : m_law_pick = vDef 8 b_law_pick_12 := rfl
set_option maxHeartbeats 4000000 in
theorem ok_law_pick (T : Txt K mg w) : GOk P w K mg base CX0 1 T.a_law_pick T.fd_law_pick ["_law_tap_here", "_law_many"] (spOf K 2 1 m_law_pick) := by
  refine def_bodyD T.F_law_pick sc_law_pick fun f cdv A outer s H E hr gd => ?_
  exact ex_k (vss_tapUT rfl (fun _ _ a b => ps_asg a b) (pv 0) (vtgs_cons (vtg_name (pg_name (i := 4) sc_law_pick.nd rfl (Or.inl rfl))) (vtgs_cons (vtg_name (pg_name (i := 5) sc_law_pick.nd rfl (Or.inl rfl))) (vtgs_cons (vtg_name (pg_name (i := 6) sc_law_pick.nd rfl (Or.inl rfl))) (vtgs_cons (vtg_name (pg_name (i := 7) sc_law_pick.nd rfl (Or.inl rfl))) vtgs_nil (fun _ _ a b => pgs_cons a b)) (fun _ _ a b => pgs_cons a b)) (fun _ _ a b => pgs_cons a b)) (fun _ _ a b => pgs_cons a b)) (by rfl) (by rfl) (fun te he => ps_lput (pv 0) pe_int he rfl) (ve_bin op_addAll ops_add (ve_var (pv 7)) ve_int) (vss_cons (vs_if (vt_cmp op_gtA ops_gtA (ve_var (pv 6)) ve_int (nomark _)) (vss_cons (vs_tapSet (j := 2) (fun te he => ps_lput (pv 0) pe_int he rfl) (ve_bin op_fdivW ops_div (ve_var (pv 6)) (ve_var (pv 1))) (by first | exact .inl rfl | exact .inr rfl))
  (vss_one (vs_ret (ve_bin op_mod ops_mod (ve_var (pv 6)) (ve_var (pv 1)))))) vss_nil)
  (vss_cons (vs_tapSet (j := 1) (fun te he => ps_lput (pv 0) pe_int he rfl) (ve_bin op_addAll ops_add (ve_var (pv 5)) ve_int) (by first | exact .inl rfl | exact .inr rfl))
  (vss_cons (vs_asg (fun te he => ps_set (i := 2) sc_law_pick.nd rfl (Or.inl rfl) he) (ve_if (vt_cmp (op_neAll (hu64 hr)) ops_ne (ve_var (pv 4)) (ve_lst va_nil) (nomark _)) (ve_ix ix_seq ops_ix (ve_var (pv 4)) (ve_bin op_mod ops_mod (ve_var (pv 5)) (ve_cb (fun ta ha => pe_callB call_lenA (by rfl) T.b_len (by decide +kernel) ha) cs_len (va_cons (ve_var (pv 4)) va_nil (by rfl)))) (fun _ _ => rfl)) ve_int))
  (vss_cons (vs_if (vw_pt (vw_and (vt_cmp (op_geAll hr) ops_geAll (ve_var (pv 2)) (ve_bin op_pow ops_pow ve_int ve_int) (nomark _)) (vw_one (vt_cmp (op_ltAll hr) ops_ltAll (ve_var (pv 5)) (ve_cb (fun ta ha => pe_callB call_lenA (by rfl) T.b_len (by decide +kernel) ha) cs_len (va_cons (ve_var (pv 4)) va_nil (by rfl))) (nomark _))))) (vss_cons (vs_tapSet (j := 2) (fun te he => ps_lput (pv 0) pe_int he rfl) (ve_bin op_fdivW ops_div (ve_var (pv 2)) (ve_var (pv 1))) (by first | exact .inl rfl | exact .inr rfl))
  (vss_one (vs_ret (ve_bin op_mod ops_mod (ve_var (pv 2)) (ve_var (pv 1)))))) vss_nil)
  (vss_cons (vs_asg (fun te he => ps_set (i := 3) sc_law_pick.nd rfl (Or.inl rfl) he) (ve_bin op_mod ops_mod (ve_bin op_pow ops_pow (ve_bin op_addAll ops_add (ve_bin op_mod ops_mod (ve_var (pv 2)) ve_int) (ve_bin op_mulA ops_mul ve_int (ve_bin op_addAll ops_add (ve_var (pv 7)) ve_int))) ve_int) ve_int))
  (vss_cons (vs_asg (fun te he => ps_set (i := 3) sc_law_pick.nd rfl (Or.inl rfl) he) (ve_bin op_mod ops_mod (ve_bin op_pow ops_pow (ve_bin op_addAll ops_add (ve_bin op_addAll ops_add (ve_var (pv 3)) (ve_bin op_mulA ops_mul ve_int (ve_var (pv 7)))) ve_int) ve_int) ve_int))
  (vss_cons (vs_asg (fun te he => ps_set (i := 3) sc_law_pick.nd rfl (Or.inl rfl) he) (ve_bin op_mod ops_mod (ve_bin op_pow ops_pow (ve_bin op_addAll ops_add (ve_bin op_addAll ops_add (ve_var (pv 3)) (ve_bin op_mulA ops_mul (ve_bin op_mod ops_mod (ve_var (pv 2)) ve_int) ve_int)) (ve_var (pv 7))) ve_int) ve_int))
  (vss_one (vs_ret (ve_bin op_mod ops_mod (ve_bin op_fdivW ops_div (ve_var (pv 3)) ve_int) (ve_var (pv 1))))))))))))) (by omega)
def t_is_number : TVS := (vRet (vAndV (vCall 1 m_is_whole [] (vCons (vVar 0) vNil)) (vBin fGeA (vVar 0) (vC (.int 0)))))
def m_is_number : TF := vDef 1 t_is_number
theorem e_is_number : m_is_number = vDef 1 (vRet (vAndV (vCall 1 m_is_whole [] (vCons (vVar 0) vNil)) (vBin fGeA (vVar 0) (vC (.int 0))))) := rfl
set_option maxHeartbeats 4000000 in
theorem ok_is_number (T : Txt K mg w) : GOk P w K mg base CX0 2 T.a_is_number T.fd_is_number ["thing"] (spOf K 1 0 m_is_number) := by
  refine def_bodyD T.F_is_number sc_is_number fun f cdv A outer s H E hr gd => ?_
  exact ex_k (vss_one (vs_ret (ve_and (ve_call (fun ta ha => gp_call (ok_is_whole T) (hr.mono (by omega)) gd (by rfl) T.g_is_whole T.F_is_whole.kp (bi_is_whole T) .nil pass0 ha) (fun _ _ => .nil) (va_cons (ve_var (pv 0)) va_nil (by rfl))) (ve_one (ve_cmp (op_geAll hr) ops_geAll (ve_var (pv 0)) ve_int (nomark _)))))) (by omega)
def b_units_ahead_0 : TVS := (vRet (vCB fSumQ (vCons (vLc (vSeqI (vVar 0)) (vgTup 3 (vgCons (vgName 5) (vgCons (vgName 6) (vgCons (vgName 7) vgNil)))) (vAnd (vTest (vBin (fEq false) (vVar 6) (vVar 2))) (vAnd (vTest (vBin fLtD (vVar 5) (vVar 1))) (vTest (vBin (fEq false) (vCallK 1 1 2 m_period_of (vCons (vVar 5) vNil) (vCons (vVar 3) vNil)) (vVar 4))))) (vVar 7) [5, 6, 7]) vNil)))
def b_units_ahead_1 : TVS := (vSeq (vAsg 4 (vCallK 1 1 2 m_period_of (vCons (vVar 1) vNil) (vCons (vVar 3) vNil)))
  b_units_ahead_0)
def t_units_ahead : TVS := (vSeq (vAsg 4 (vCallK 1 1 2 m_period_of (vCons (vVar 1) vNil) (vCons (vVar 3) vNil)))
  (vRet (vCB fSumQ (vCons (vLc (vSeqI (vVar 0)) (vgTup 3 (vgCons (vgName 5) (vgCons (vgName 6) (vgCons (vgName 7) vgNil)))) (vAnd (vTest (vBin (fEq false) (vVar 6) (vVar 2))) (vAnd (vTest (vBin fLtD (vVar 5) (vVar 1))) (vTest (vBin (fEq false) (vCallK 1 1 2 m_period_of (vCons (vVar 5) vNil) (vCons (vVar 3) vNil)) (vVar 4))))) (vVar 7) [5, 6, 7]) vNil))))
def m_units_ahead : TF := vDef 8 t_units_ahead
theorem e_units_ahead : m_units_ahead = vDef 8 b_units_ahead_1 := rfl
set_option maxHeartbeats 4000000 in
theorem ok_units_ahead (T : Txt K mg w) : GOk P w K mg base CX0 2 T.a_units_ahead T.fd_units_ahead ["notes", "day", "kind", "calendar"] (spOf K 4 0 m_units_ahead) := by
  refine def_bodyD T.F_units_ahead sc_units_ahead fun f cdv A outer s H E hr gd => ?_
  exact ex_k (vss_cons (vs_asg (fun te he => ps_set (i := 4) sc_units_ahead.nd rfl (Or.inr rfl) he) (ve_callK (fun ta tk ha hk => gp_callK (ok_period_of T) (hr.mono (by omega)) gd (by rfl) T.g_period_of T.F_period_of.kp (kb_period_of T) pass0 ha hk) (va_cons (ve_var (pv 1)) va_nil (by rfl)) (vk_cons (ve_var (pv 3)) vk_nil)))
  (vss_one (vs_ret (ve_cb (fun ta ha => pe_callB (cr_sumQ rfl) (by rfl) T.b_sum (by decide +kernel) ha) cs_sumQ (va_cons (ve_lc (fun _ _ _ _ a b c d => pe_lc (own := [("earlier", 5), ("its_kind", 6), ("units", 7)]) rfl sc_units_ahead.nd a (blkOk_by (own := [("earlier", 5), ("its_kind", 6), ("units", 7)]) (N := N_units_ahead) (sc := defScope s_units_ahead) (by decide +kernel)) b c d) (vi_seq (ve_var (pv 0))) (fun _ _ _ _ _ => (vtg_tup rfl (vtgs_cons (vtg_name (pg_name (i := 5) sc_units_ahead.nd rfl (Or.inl rfl))) (vtgs_cons (vtg_name (pg_name (i := 6) sc_units_ahead.nd rfl (Or.inl rfl))) (vtgs_cons (vtg_name (pg_name (i := 7) sc_units_ahead.nd rfl (Or.inl rfl))) vtgs_nil (fun _ _ a b => pgs_cons a b)) (fun _ _ a b => pgs_cons a b)) (fun _ _ a b => pgs_cons a b)) (by rfl) (by rfl))) (fun _ _ _ _ _ => (vts_one (vw_pt (vw_and (vt_cmp (op_eqAll (hu64 hr)) ops_eq (ve_var (pv 6)) (ve_var (pv 2)) (nomark _)) (vw_and (vt_cmp (op_ltAll hr) ops_ltAll (ve_var (pv 5)) (ve_var (pv 1)) (nomark _)) (vw_one (vt_cmp (op_eqAll (hu64 hr)) ops_eq (ve_callK (fun ta tk ha hk => gp_callK (ok_period_of T) (hr.mono (by omega)) gd (by rfl) T.g_period_of T.F_period_of.kp (kb_period_of T) pass0 ha hk) (va_cons (ve_var (pv 5)) va_nil (by rfl)) (vk_cons (ve_var (pv 3)) vk_nil)) (ve_var (pv 4)) (nomark _)))))))) (fun _ _ _ _ _ => (ve_var (pv 7))) (by decide)) va_nil (by rfl)))))) (by omega)
def b_law_great_0 : TVS := (vRet (vBin fIx (vVar 1) (vCall 2 m_law_pick [] (vCons (vVar 0) (vCons (vC (.int 4)) vNil)))))
def b_law_great_1 : TVS := (vSeq (vAsg 1 (vLst (vCons (vCall 2 m_law_pick [] (vCons (vVar 0) (vCons (vC (.int 9)) vNil))) (vCons (vCall 2 m_law_pick [] (vCons (vVar 0) (vCons (vC (.int 999)) vNil))) (vCons (vBin fSub (vBin fPow (vC (.int 10)) (vC (.int 5))) (vCall 2 m_law_pick [] (vCons (vVar 0) (vCons (vC (.int 999)) vNil)))) (vCons (vCall 2 m_law_pick [] (vCons (vVar 0) (vCons (vBin fPow (vC (.int 10)) (vC (.int 5))) vNil))) vNil))))))
  b_law_great_0)
def t_law_great : TVS := (vSeq (vAsg 1 (vLst (vCons (vCall 2 m_law_pick [] (vCons (vVar 0) (vCons (vC (.int 9)) vNil))) (vCons (vCall 2 m_law_pick [] (vCons (vVar 0) (vCons (vC (.int 999)) vNil))) (vCons (vBin fSub (vBin fPow (vC (.int 10)) (vC (.int 5))) (vCall 2 m_law_pick [] (vCons (vVar 0) (vCons (vC (.int 999)) vNil)))) (vCons (vCall 2 m_law_pick [] (vCons (vVar 0) (vCons (vBin fPow (vC (.int 10)) (vC (.int 5))) vNil))) vNil))))))
  (vRet (vBin fIx (vVar 1) (vCall 2 m_law_pick [] (vCons (vVar 0) (vCons (vC (.int 4)) vNil))))))
def m_law_great : TF := vDef 2 t_law_great
theorem e_law_great : m_law_great = vDef 2 b_law_great_1 := rfl
set_option maxHeartbeats 4000000 in
theorem ok_law_great (T : Txt K mg w) : GOk P w K mg base CX0 2 T.a_law_great T.fd_law_great ["_law_tap_here"] (spOf K 1 5 m_law_great) := by
  refine def_bodyD T.F_law_great sc_law_great fun f cdv A outer s H E hr gd => ?_
  exact ex_k (vss_cons (vs_asg (fun te he => ps_set (i := 1) sc_law_great.nd rfl (Or.inl rfl) he) (ve_lst (va_cons (ve_call (fun ta ha => gp_call (ok_law_pick T) (hr.mono (by omega)) gd (by rfl) T.g_law_pick T.F_law_pick.kp (bi_law_pick T) .nil pass0 ha) (fun _ _ => .nil) (va_cons (ve_var (pv 0)) (va_cons ve_int va_nil (by rfl)) (by rfl))) (va_cons (ve_call (fun ta ha => gp_call (ok_law_pick T) (hr.mono (by omega)) gd (by rfl) T.g_law_pick T.F_law_pick.kp (bi_law_pick T) .nil pass0 ha) (fun _ _ => .nil) (va_cons (ve_var (pv 0)) (va_cons ve_int va_nil (by rfl)) (by rfl))) (va_cons (ve_bin op_subA ops_sub (ve_bin op_pow ops_pow ve_int ve_int) (ve_call (fun ta ha => gp_call (ok_law_pick T) (hr.mono (by omega)) gd (by rfl) T.g_law_pick T.F_law_pick.kp (bi_law_pick T) .nil pass0 ha) (fun _ _ => .nil) (va_cons (ve_var (pv 0)) (va_cons ve_int va_nil (by rfl)) (by rfl)))) (va_cons (ve_call (fun ta ha => gp_call (ok_law_pick T) (hr.mono (by omega)) gd (by rfl) T.g_law_pick T.F_law_pick.kp (bi_law_pick T) .nil pass0 ha) (fun _ _ => .nil) (va_cons (ve_var (pv 0)) (va_cons (ve_bin op_pow ops_pow ve_int ve_int) va_nil (by rfl)) (by rfl))) va_nil (by rfl)) (by rfl)) (by rfl)) (by rfl))))
  (vss_one (vs_ret (ve_ix ix_seq ops_ix (ve_var (pv 1)) (ve_call (fun ta ha => gp_call (ok_law_pick T) (hr.mono (by omega)) gd (by rfl) T.g_law_pick T.F_law_pick.kp (bi_law_pick T) .nil pass0 ha) (fun _ _ => .nil) (va_cons (ve_var (pv 0)) (va_cons ve_int va_nil (by rfl)) (by rfl))) (fun _ _ => rfl))))) (by omega)
def b_law_finer_0 : TVS := (vRet (vCB fTuple (vCons (vCB fSortT (vCons (vBin fAdd (vVar 1) (vTup (vCons (vTup (vCons (vVar 3) (vCons (vBin fIx (vBin fIx (vVar 4) (vNeg (vC (.int 1)))) (vC (.int 1))) vNil))) vNil))) vNil)) vNil)))
def b_law_finer_1 : TVS := (vSeq (if false = true then vAsgO 4 (vLc (vSeqI (vVar 1)) (vgName 5) (vTest (vBin fLeD (vBin fIx (vVar 5) (vC (.int 0))) (vVar 3))) (vVar 5) [5]) else vAsg 4 (vLc (vSeqI (vVar 1)) (vgName 5) (vTest (vBin fLeD (vBin fIx (vVar 5) (vC (.int 0))) (vVar 3))) (vVar 5) [5]))
  b_law_finer_0)
def b_law_finer_2 : TVS := (vSeq (vIfS (vOr (vTest (vBin (fInD false) (vVar 3) (vLc (vSeqI (vVar 1)) (vgName 5) (fun _ Q => Q true) (vBin fIx (vVar 5) (vC (.int 0))) [5]))) (vTest (vBin (fEq false) (vCB fLen (vCons (vVar 1) vNil)) (vC (.int 4))))) (vRet (vVar 1)) vNext)
  b_law_finer_1)
def b_law_finer_3 : TVS := (vSeq (vAsg 3 (vBin fAdd (vBin fAdd (vBin fIx (vBin fIx (vVar 1) (vVar 2)) (vC (.int 0))) (vC (.int 1))) (vCall 2 m_law_pick [] (vCons (vVar 0) (vCons (vC (.int 50)) vNil)))))
  b_law_finer_2)
def b_law_finer_4 : TVS := (vSeq (vAsg 2 (vCall 2 m_law_pick [] (vCons (vVar 0) (vCons (vCB fLen (vCons (vVar 1) vNil)) vNil))))
  b_law_finer_3)
def t_law_finer : TVS := (vSeq (vAsg 2 (vCall 2 m_law_pick [] (vCons (vVar 0) (vCons (vCB fLen (vCons (vVar 1) vNil)) vNil))))
  (vSeq (vAsg 3 (vBin fAdd (vBin fAdd (vBin fIx (vBin fIx (vVar 1) (vVar 2)) (vC (.int 0))) (vC (.int 1))) (vCall 2 m_law_pick [] (vCons (vVar 0) (vCons (vC (.int 50)) vNil)))))
  (vSeq (vIfS (vOr (vTest (vBin (fInD false) (vVar 3) (vLc (vSeqI (vVar 1)) (vgName 5) (fun _ Q => Q true) (vBin fIx (vVar 5) (vC (.int 0))) [5]))) (vTest (vBin (fEq false) (vCB fLen (vCons (vVar 1) vNil)) (vC (.int 4))))) (vRet (vVar 1)) vNext)
  (vSeq (if false = true then vAsgO 4 (vLc (vSeqI (vVar 1)) (vgName 5) (vTest (vBin fLeD (vBin fIx (vVar 5) (vC (.int 0))) (vVar 3))) (vVar 5) [5]) else vAsg 4 (vLc (vSeqI (vVar 1)) (vgName 5) (vTest (vBin fLeD (vBin fIx (vVar 5) (vC (.int 0))) (vVar 3))) (vVar 5) [5]))
  (vRet (vCB fTuple (vCons (vCB fSortT (vCons (vBin fAdd (vVar 1) (vTup (vCons (vTup (vCons (vVar 3) (vCons (vBin fIx (vBin fIx (vVar 4) (vNeg (vC (.int 1)))) (vC (.int 1))) vNil))) vNil))) vNil)) vNil)))))))
def m_law_finer : TF := vDef 6 t_law_finer
theorem e_law_finer : m_law_finer = vDef 6 b_law_finer_4 := rfl
set_option maxHeartbeats 4000000 in
theorem ok_law_finer (T : Txt K mg w) : GOk P w K mg base CX0 2 T.a_law_finer T.fd_law_finer ["_law_tap_here", "_law_tiers_here"] (spOf K 2 2 m_law_finer) := by
  refine def_bodyD T.F_law_finer sc_law_finer fun f cdv A outer s H E hr gd => ?_
  exact ex_k (vss_cons (vs_asg (fun te he => ps_set (i := 2) sc_law_finer.nd rfl (Or.inl rfl) he) (ve_call (fun ta ha => gp_call (ok_law_pick T) (hr.mono (by omega)) gd (by rfl) T.g_law_pick T.F_law_pick.kp (bi_law_pick T) .nil pass0 ha) (fun _ _ => .nil) (va_cons (ve_var (pv 0)) (va_cons (ve_cb (fun ta ha => pe_callB call_lenA (by rfl) T.b_len (by decide +kernel) ha) cs_len (va_cons (ve_var (pv 1)) va_nil (by rfl))) va_nil (by rfl)) (by rfl))))
  (vss_cons (vs_asg (fun te he => ps_set (i := 3) sc_law_finer.nd rfl (Or.inr rfl) he) (ve_bin op_addAll ops_add (ve_bin op_addAll ops_add (ve_ix ix_seq ops_ix (ve_ix ix_seq ops_ix (ve_var (pv 1)) (ve_var (pv 2)) (fun _ _ => rfl)) ve_int (fun _ _ => rfl)) ve_int) (ve_call (fun ta ha => gp_call (ok_law_pick T) (hr.mono (by omega)) gd (by rfl) T.g_law_pick T.F_law_pick.kp (bi_law_pick T) .nil pass0 ha) (fun _ _ => .nil) (va_cons (ve_var (pv 0)) (va_cons ve_int va_nil (by rfl)) (by rfl)))))
  (vss_cons (vs_if (vw_pt (vw_or (vt_cmp (op_in_sign.or (op_inD hr)) ops_inD (ve_var (pv 3)) (ve_lc (fun _ _ _ _ a b c d => pe_lc (own := [("_law_pair", 5)]) rfl sc_law_finer.nd a (blkOk_by (own := [("_law_pair", 5)]) (N := N_law_finer) (sc := defScope s_law_finer) (by decide +kernel)) b c d) (vi_seq (ve_var (pv 1))) (fun _ _ _ _ _ => (vtg_name (pg_name (i := 5) sc_law_finer.nd rfl (Or.inl rfl)))) (fun _ _ _ _ _ => vts_nil) (fun _ _ _ _ _ => (ve_ix ix_seq ops_ix (ve_var (pv 5)) ve_int (fun _ _ => rfl))) (by decide)) (by rfl)) (vw_one (vt_cmp (op_eqAll (hu64 hr)) ops_eq (ve_cb (fun ta ha => pe_callB call_lenA (by rfl) T.b_len (by decide +kernel) ha) cs_len (va_cons (ve_var (pv 1)) va_nil (by rfl))) ve_int (nomark _))))) (vss_one (vs_ret (ve_var (pv 1)))) vss_nil)
  (vss_cons (vs_setLc false (fun _ _ _ _ a b c d => ps_setLc (own := [("_law_pair", 5)]) rfl sc_law_finer.nd rfl rfl (sw_true rfl rfl rfl (by decide +kernel)) a (blkOk_by (own := [("_law_pair", 5)]) (N := N_law_finer) (sc := defScope s_law_finer) (by decide +kernel)) b c d) (vi_seq (ve_var (pv 1))) (fun _ _ _ _ _ => (vtg_name (pg_name (i := 5) sc_law_finer.nd rfl (Or.inl rfl)))) (fun _ _ _ _ _ => (vts_one (vt_cmp op_leAll ops_leD (ve_ix ix_seq ops_ix (ve_var (pv 5)) ve_int (fun _ _ => rfl)) (ve_var (pv 3)) (nomark _)))) (fun _ _ _ _ _ => (ve_var (pv 5))) (by decide))
  (vss_one (vs_ret (ve_cb (fun ta ha => pe_callTy call_tupOfN (by rfl) T.b_tuple (by decide +kernel) ha) cs_tuple (va_cons (ve_cb (fun ta ha => pe_callB (cr_sortedTA hr) (by rfl) T.b_sorted (by decide +kernel) ha) cs_sortT (va_cons (ve_bin op_addAll ops_add (ve_var (pv 1)) (ve_tup (va_cons (ve_tup (va_cons (ve_var (pv 3)) (va_cons (ve_ix ix_seq ops_ix (ve_ix ix_seq ops_ix (ve_var (pv 4)) (ve_neg ve_int) (fun _ _ => rfl)) ve_int (fun _ _ => rfl)) va_nil (by rfl)) (by rfl))) va_nil (by rfl)))) va_nil (by rfl))) va_nil (by rfl))))))))) (by omega)
def t_is_tier : TVS := (vRet (vAndV (vCall 2 m_is_tuple_of [] (vCons (vVar 0) (vCons (vC (.int 2)) vNil))) (vAndV (vCall 1 m_is_number [] (vCons (vBin fIx (vVar 0) (vC (.int 0))) vNil)) (vCall 1 m_is_number [] (vCons (vBin fIx (vVar 0) (vC (.int 1))) vNil)))))
def m_is_tier : TF := vDef 1 t_is_tier
theorem e_is_tier : m_is_tier = vDef 1 (vRet (vAndV (vCall 2 m_is_tuple_of [] (vCons (vVar 0) (vCons (vC (.int 2)) vNil))) (vAndV (vCall 1 m_is_number [] (vCons (vBin fIx (vVar 0) (vC (.int 0))) vNil)) (vCall 1 m_is_number [] (vCons (vBin fIx (vVar 0) (vC (.int 1))) vNil))))) := rfl
set_option maxHeartbeats 4000000 in
theorem ok_is_tier (T : Txt K mg w) : GOk P w K mg base CX0 3 T.a_is_tier T.fd_is_tier ["thing"] (spOf K 1 0 m_is_tier) := by
  refine def_bodyD T.F_is_tier sc_is_tier fun f cdv A outer s H E hr gd => ?_
  exact ex_k (vss_one (vs_ret (ve_and (ve_call (fun ta ha => gp_call (ok_is_tuple_of T) (hr.mono (by omega)) gd (by rfl) T.g_is_tuple_of T.F_is_tuple_of.kp (bi_is_tuple_of T) .nil pass0 ha) (fun _ _ => .nil) (va_cons (ve_var (pv 0)) (va_cons ve_int va_nil (by rfl)) (by rfl))) (ve_and (ve_call (fun ta ha => gp_call (ok_is_number T) (hr.mono (by omega)) gd (by rfl) T.g_is_number T.F_is_number.kp (bi_is_number T) .nil pass0 ha) (fun _ _ => .nil) (va_cons (ve_ix ix_seq ops_ix (ve_var (pv 0)) ve_int (fun _ _ => rfl)) va_nil (by rfl))) (ve_one (ve_call (fun ta ha => gp_call (ok_is_number T) (hr.mono (by omega)) gd (by rfl) T.g_is_number T.F_is_number.kp (bi_is_number T) .nil pass0 ha) (fun _ _ => .nil) (va_cons (ve_ix ix_seq ops_ix (ve_var (pv 0)) ve_int (fun _ _ => rfl)) va_nil (by rfl)))))))) (by omega)
def b_coins_on_0 : TVS := (vRet (vCallK 2 1 3 m_cost (vCons (vCall 2 m_tiers_of [] (vCons (vVar 3) (vCons (vVar 2) vNil))) (vCons (vCall 3 m_units_on [] (vCons (vVar 0) (vCons (vVar 1) (vCons (vVar 2) vNil)))) vNil)) (vCons (vVar 5) vNil)))
def b_coins_on_1 : TVS := (vSeq (vAsg 5 (vCall 4 m_units_ahead [] (vCons (vVar 0) (vCons (vVar 1) (vCons (vVar 2) (vCons (vVar 4) vNil))))))
  b_coins_on_0)
def t_coins_on : TVS := (vSeq (vAsg 5 (vCall 4 m_units_ahead [] (vCons (vVar 0) (vCons (vVar 1) (vCons (vVar 2) (vCons (vVar 4) vNil))))))
  (vRet (vCallK 2 1 3 m_cost (vCons (vCall 2 m_tiers_of [] (vCons (vVar 3) (vCons (vVar 2) vNil))) (vCons (vCall 3 m_units_on [] (vCons (vVar 0) (vCons (vVar 1) (vCons (vVar 2) vNil)))) vNil)) (vCons (vVar 5) vNil))))
def m_coins_on : TF := vDef 6 t_coins_on
theorem e_coins_on : m_coins_on = vDef 6 b_coins_on_1 := rfl
set_option maxHeartbeats 4000000 in
theorem ok_coins_on (T : Txt K mg w) : GOk P w K mg base CX0 3 T.a_coins_on T.fd_coins_on ["notes", "day", "kind", "prices", "calendar"] (spOf K 5 0 m_coins_on) := by
  refine def_bodyD T.F_coins_on sc_coins_on fun f cdv A outer s H E hr gd => ?_
  exact ex_k (vss_cons (vs_asg (fun te he => ps_set (i := 5) sc_coins_on.nd rfl (Or.inl rfl) he) (ve_call (fun ta ha => gp_call (ok_units_ahead T) (hr.mono (by omega)) gd (by rfl) T.g_units_ahead T.F_units_ahead.kp (bi_units_ahead T) .nil pass0 ha) (fun _ _ => .nil) (va_cons (ve_var (pv 0)) (va_cons (ve_var (pv 1)) (va_cons (ve_var (pv 2)) (va_cons (ve_var (pv 4)) va_nil (by rfl)) (by rfl)) (by rfl)) (by rfl))))
  (vss_one (vs_ret (ve_callK (fun ta tk ha hk => gp_callK (ok_cost T) (hr.mono (by omega)) gd (by rfl) T.g_cost T.F_cost.kp (kb_cost T) pass0 ha hk) (va_cons (ve_call (fun ta ha => gp_call (ok_tiers_of T) (hr.mono (by omega)) gd (by rfl) T.g_tiers_of T.F_tiers_of.kp (bi_tiers_of T) .nil pass0 ha) (fun _ _ => .nil) (va_cons (ve_var (pv 3)) (va_cons (ve_var (pv 2)) va_nil (by rfl)) (by rfl))) (va_cons (ve_call (fun ta ha => gp_call (ok_units_on T) (hr.mono (by omega)) gd (by rfl) T.g_units_on T.F_units_on.kp (bi_units_on T) .nil pass0 ha) (fun _ _ => .nil) (va_cons (ve_var (pv 0)) (va_cons (ve_var (pv 1)) (va_cons (ve_var (pv 2)) va_nil (by rfl)) (by rfl)) (by rfl))) va_nil (by rfl)) (by rfl)) (vk_cons (ve_var (pv 5)) vk_nil))))) (by omega)
def b_law_tiers_0 : TVS := (vRet (vCB fTuple (vCons (vLcL 100 (vSeqI (vBin fAdd (vLst (vCons (vC (.int 0)) vNil)) (vVar 1))) (vgName 2) (fun _ Q => Q true) (vTup (vCons (vVar 2) (vCons (vBin fIx (vLst (vCons (vC (.int 0)) (vCons (vC (.int 1)) (vCons (vC (.int 3)) (vCons (vBin fPow (vC (.int 10)) (vC (.int 6))) vNil))))) (vCall 2 m_law_pick [] (vCons (vVar 0) (vCons (vC (.int 4)) vNil)))) vNil))) [2]) vNil)))
def b_law_tiers_1 : TVS := (vSeq (vAsg 1 (vCB fSortDI (vCons (vCB fDictM (vCons (vLcL 100 (vRng1 (vCons (vCall 2 m_law_pick [] (vCons (vVar 0) (vCons (vC (.int 4)) vNil))) vNil)) (vgName 3) (fun _ Q => Q true) (vTup (vCons (vBin fAdd (vC (.int 1)) (vCall 1 m_law_great [] (vCons (vVar 0) vNil))) (vCons (vC (.bool true)) vNil))) [3]) vNil)) vNil)))
  b_law_tiers_0)
def t_law_tiers : TVS := (vSeq (vAsg 1 (vCB fSortDI (vCons (vCB fDictM (vCons (vLcL 100 (vRng1 (vCons (vCall 2 m_law_pick [] (vCons (vVar 0) (vCons (vC (.int 4)) vNil))) vNil)) (vgName 3) (fun _ Q => Q true) (vTup (vCons (vBin fAdd (vC (.int 1)) (vCall 1 m_law_great [] (vCons (vVar 0) vNil))) (vCons (vC (.bool true)) vNil))) [3]) vNil)) vNil)))
  (vRet (vCB fTuple (vCons (vLcL 100 (vSeqI (vBin fAdd (vLst (vCons (vC (.int 0)) vNil)) (vVar 1))) (vgName 2) (fun _ Q => Q true) (vTup (vCons (vVar 2) (vCons (vBin fIx (vLst (vCons (vC (.int 0)) (vCons (vC (.int 1)) (vCons (vC (.int 3)) (vCons (vBin fPow (vC (.int 10)) (vC (.int 6))) vNil))))) (vCall 2 m_law_pick [] (vCons (vVar 0) (vCons (vC (.int 4)) vNil)))) vNil))) [2]) vNil))))
def m_law_tiers : TF := vDef 4 t_law_tiers
theorem e_law_tiers : m_law_tiers = vDef 4 b_law_tiers_1 := rfl
set_option maxHeartbeats 4000000 in
theorem ok_law_tiers (T : Txt K mg w) : GOk P w K mg base CX0 3 T.a_law_tiers T.fd_law_tiers ["_law_tap_here"] (spOf K 1 601 m_law_tiers) := by
  refine def_bodyD T.F_law_tiers sc_law_tiers fun f cdv A outer s H E hr gd => ?_
  exact ex_k (vss_cons (vs_asg (fun te he => ps_set (i := 1) sc_law_tiers.nd rfl (Or.inl rfl) he) (ve_cb (fun ta ha => pe_callB (call_sortedDI rfl) (by rfl) T.b_sorted (by decide +kernel) ha) cs_sortDI (va_cons (ve_cb (fun ta ha => pe_callTy (call_dictQ rfl) (by rfl) T.b_dict (by decide +kernel) ha) cs_dictM (va_cons (ve_lcL 100 (fun _ _ _ _ a b c d => pe_lc (own := [("_law_k", 3)]) rfl sc_law_tiers.nd a (blkOk_by (own := [("_law_k", 3)]) (N := N_law_tiers) (sc := defScope s_law_tiers) (by decide +kernel)) b c d) (vi_range1 (fun ta ha => pi_range1 (by rfl) T.b_range ha) (va_cons (ve_call (fun ta ha => gp_call (ok_law_pick T) (hr.mono (by omega)) gd (by rfl) T.g_law_pick T.F_law_pick.kp (bi_law_pick T) .nil pass0 ha) (fun _ _ => .nil) (va_cons (ve_var (pv 0)) (va_cons ve_int va_nil (by rfl)) (by rfl))) va_nil (by rfl))) (fun _ _ _ _ _ => (vtg_name (pg_name (i := 3) sc_law_tiers.nd rfl (Or.inl rfl)))) (fun _ _ _ _ _ => vts_nil) (fun _ _ _ _ _ => (ve_tup (va_cons (ve_bin op_addAll ops_add ve_int (ve_call (fun ta ha => gp_call (ok_law_great T) (hr.mono (by omega)) gd (by rfl) T.g_law_great T.F_law_great.kp (bi_law_great T) .nil pass0 ha) (fun _ _ => .nil) (va_cons (ve_var (pv 0)) va_nil (by rfl)))) (va_cons ve_bl va_nil (by rfl)) (by rfl)))) (by decide)) va_nil (by rfl))) va_nil (by rfl))))
  (vss_one (vs_ret (ve_cb (fun ta ha => pe_callTy call_tupOfN (by rfl) T.b_tuple (by decide +kernel) ha) cs_tuple (va_cons (ve_lcL 100 (fun _ _ _ _ a b c d => pe_lc (own := [("_law_start", 2)]) rfl sc_law_tiers.nd a (blkOk_by (own := [("_law_start", 2)]) (N := N_law_tiers) (sc := defScope s_law_tiers) (by decide +kernel)) b c d) (vi_seq (ve_bin op_addAll ops_add (ve_lst (va_cons ve_int va_nil (by rfl))) (ve_var (pv 1)))) (fun _ _ _ _ _ => (vtg_name (pg_name (i := 2) sc_law_tiers.nd rfl (Or.inl rfl)))) (fun _ _ _ _ _ => vts_nil) (fun _ _ _ _ _ => (ve_tup (va_cons (ve_var (pv 2)) (va_cons (ve_ix ix_seq ops_ix (ve_lst (va_cons ve_int (va_cons ve_int (va_cons ve_int (va_cons (ve_bin op_pow ops_pow ve_int ve_int) va_nil (by rfl)) (by rfl)) (by rfl)) (by rfl))) (ve_call (fun ta ha => gp_call (ok_law_pick T) (hr.mono (by omega)) gd (by rfl) T.g_law_pick T.F_law_pick.kp (bi_law_pick T) .nil pass0 ha) (fun _ _ => .nil) (va_cons (ve_var (pv 0)) (va_cons ve_int va_nil (by rfl)) (by rfl))) (fun _ _ => rfl)) va_nil (by rfl)) (by rfl)))) (by decide)) va_nil (by rfl)))))) (by omega)
def b_law_parted_right_0 : TVS := (vRet (vBin (fEq false) (vCall 3 m_cost [(PyData.int (0))] (vCons (vVar 1) (vCons (vBin fAdd (vVar 6) (vVar 5)) vNil))) (vBin fAdd (vCall 3 m_cost [(PyData.int (0))] (vCons (vVar 1) (vCons (vVar 6) vNil))) (vVar 3))))
def b_law_parted_right_1 : TVS := (vSeq (vIfS (vTest (vBin (fEq true) (vCallK 2 1 3 m_cost (vCons (vVar 4) (vCons (vVar 5) vNil)) (vCons (vVar 6) vNil)) (vBin fMulAll (vVar 3) (vC (.int 2))))) (vRet (vC (.bool false))) vNext)
  b_law_parted_right_0)
def b_law_parted_right_2 : TVS := (vSeq (vAsg 4 (vCB fTuple (vCons (vLc (vSeqI (vVar 1)) (vgTup 2 (vgCons (vgName 7) (vgCons (vgName 8) vgNil))) (fun _ Q => Q true) (vTup (vCons (vVar 7) (vCons (vBin fMulAll (vVar 8) (vC (.int 2))) vNil))) [7, 8]) vNil)))
  b_law_parted_right_1)
def b_law_parted_right_3 : TVS := (vSeq (vIfS (vTest (vBin (fEq true) (vCallK 2 1 3 m_cost (vCons (vVar 1) (vCons (vC (.int 0)) vNil)) (vCons (vVar 6) vNil)) (vC (.int 0)))) (vRet (vC (.bool false))) vNext)
  b_law_parted_right_2)
def b_law_parted_right_4 : TVS := (vSeq (vIfS (vTest (vBin (fEq true) (vCallK 2 1 3 m_cost (vCons (vCall 2 m_law_finer [] (vCons (vVar 0) (vCons (vVar 1) vNil))) (vCons (vVar 5) vNil)) (vCons (vVar 6) vNil)) (vVar 3))) (vRet (vC (.bool false))) vNext)
  b_law_parted_right_3)
def b_law_parted_right_5 : TVS := (vSeq (vIfS (vTest (vBin (fEq true) (vVar 3) (vBin fAdd (vCallK 2 1 3 m_cost (vCons (vVar 1) (vCons (vVar 2) vNil)) (vCons (vVar 6) vNil)) (vCallK 2 1 3 m_cost (vCons (vVar 1) (vCons (vBin fSub (vVar 5) (vVar 2)) vNil)) (vCons (vBin fAdd (vVar 6) (vVar 2)) vNil))))) (vRet (vC (.bool false))) vNext)
  b_law_parted_right_4)
def b_law_parted_right_6 : TVS := (vSeq (vAsg 3 (vCallK 2 1 3 m_cost (vCons (vVar 1) (vCons (vVar 5) vNil)) (vCons (vVar 6) vNil)))
  b_law_parted_right_5)
def b_law_parted_right_7 : TVS := (vSeq (vAsg 2 (vCall 2 m_law_pick [] (vCons (vVar 0) (vCons (vBin fAdd (vVar 5) (vC (.int 1))) vNil))))
  b_law_parted_right_6)
def b_law_parted_right_8 : TVS := (vSeq (vPar 5 6 (vCons (vCall 1 m_law_great [] (vCons (vVar 0) vNil)) (vCons (vCall 1 m_law_great [] (vCons (vVar 0) vNil)) vNil)))
  b_law_parted_right_7)
def t_law_parted_right : TVS := (vSeq (vPar 5 6 (vCons (vCall 1 m_law_great [] (vCons (vVar 0) vNil)) (vCons (vCall 1 m_law_great [] (vCons (vVar 0) vNil)) vNil)))
  (vSeq (vAsg 2 (vCall 2 m_law_pick [] (vCons (vVar 0) (vCons (vBin fAdd (vVar 5) (vC (.int 1))) vNil))))
  (vSeq (vAsg 3 (vCallK 2 1 3 m_cost (vCons (vVar 1) (vCons (vVar 5) vNil)) (vCons (vVar 6) vNil)))
  (vSeq (vIfS (vTest (vBin (fEq true) (vVar 3) (vBin fAdd (vCallK 2 1 3 m_cost (vCons (vVar 1) (vCons (vVar 2) vNil)) (vCons (vVar 6) vNil)) (vCallK 2 1 3 m_cost (vCons (vVar 1) (vCons (vBin fSub (vVar 5) (vVar 2)) vNil)) (vCons (vBin fAdd (vVar 6) (vVar 2)) vNil))))) (vRet (vC (.bool false))) vNext)
  (vSeq (vIfS (vTest (vBin (fEq true) (vCallK 2 1 3 m_cost (vCons (vCall 2 m_law_finer [] (vCons (vVar 0) (vCons (vVar 1) vNil))) (vCons (vVar 5) vNil)) (vCons (vVar 6) vNil)) (vVar 3))) (vRet (vC (.bool false))) vNext)
  (vSeq (vIfS (vTest (vBin (fEq true) (vCallK 2 1 3 m_cost (vCons (vVar 1) (vCons (vC (.int 0)) vNil)) (vCons (vVar 6) vNil)) (vC (.int 0)))) (vRet (vC (.bool false))) vNext)
  (vSeq (vAsg 4 (vCB fTuple (vCons (vLc (vSeqI (vVar 1)) (vgTup 2 (vgCons (vgName 7) (vgCons (vgName 8) vgNil))) (fun _ Q => Q true) (vTup (vCons (vVar 7) (vCons (vBin fMulAll (vVar 8) (vC (.int 2))) vNil))) [7, 8]) vNil)))
  (vSeq (vIfS (vTest (vBin (fEq true) (vCallK 2 1 3 m_cost (vCons (vVar 4) (vCons (vVar 5) vNil)) (vCons (vVar 6) vNil)) (vBin fMulAll (vVar 3) (vC (.int 2))))) (vRet (vC (.bool false))) vNext)
  (vRet (vBin (fEq false) (vCall 3 m_cost [(PyData.int (0))] (vCons (vVar 1) (vCons (vBin fAdd (vVar 6) (vVar 5)) vNil))) (vBin fAdd (vCall 3 m_cost [(PyData.int (0))] (vCons (vVar 1) (vCons (vVar 6) vNil))) (vVar 3))))))))))))
def m_law_parted_right : TF := vDef 9 t_law_parted_right
theorem e_law_parted_right : m_law_parted_right = vDef 9 b_law_parted_right_8 := rfl
set_option maxHeartbeats 4000000 in
theorem ok_law_parted_right (T : Txt K mg w) : GOk P w K mg base CX0 3 T.a_law_parted_right T.fd_law_parted_right ["_law_tap_here", "_law_tiers_here"] (spOf K 2 13 m_law_parted_right) := by
  refine def_bodyD T.F_law_parted_right sc_law_parted_right fun f cdv A outer s H E hr gd => ?_
  exact ex_k (vss_cons (vs_par (fun ta ha => ps_par (by rfl) sc_law_parted_right.nd rfl rfl (by decide) rfl rfl ha (by rfl)) (va_cons (ve_call (fun ta ha => gp_call (ok_law_great T) (hr.mono (by omega)) gd (by rfl) T.g_law_great T.F_law_great.kp (bi_law_great T) .nil pass0 ha) (fun _ _ => .nil) (va_cons (ve_var (pv 0)) va_nil (by rfl))) (va_cons (ve_call (fun ta ha => gp_call (ok_law_great T) (hr.mono (by omega)) gd (by rfl) T.g_law_great T.F_law_great.kp (bi_law_great T) .nil pass0 ha) (fun _ _ => .nil) (va_cons (ve_var (pv 0)) va_nil (by rfl))) va_nil (by rfl)) (by rfl)))
  (vss_cons (vs_asg (fun te he => ps_set (i := 2) sc_law_parted_right.nd rfl (Or.inl rfl) he) (ve_call (fun ta ha => gp_call (ok_law_pick T) (hr.mono (by omega)) gd (by rfl) T.g_law_pick T.F_law_pick.kp (bi_law_pick T) .nil pass0 ha) (fun _ _ => .nil) (va_cons (ve_var (pv 0)) (va_cons (ve_bin op_addAll ops_add (ve_var (pv 5)) ve_int) va_nil (by rfl)) (by rfl))))
  (vss_cons (vs_asg (fun te he => ps_set (i := 3) sc_law_parted_right.nd rfl (Or.inl rfl) he) (ve_callK (fun ta tk ha hk => gp_callK (ok_cost T) (hr.mono (by omega)) gd (by rfl) T.g_cost T.F_cost.kp (kb_cost T) pass0 ha hk) (va_cons (ve_var (pv 1)) (va_cons (ve_var (pv 5)) va_nil (by rfl)) (by rfl)) (vk_cons (ve_var (pv 6)) vk_nil)))
  (vss_cons (vs_if (vt_cmp (op_neAll (hu64 hr)) ops_ne (ve_var (pv 3)) (ve_bin op_addAll ops_add (ve_callK (fun ta tk ha hk => gp_callK (ok_cost T) (hr.mono (by omega)) gd (by rfl) T.g_cost T.F_cost.kp (kb_cost T) pass0 ha hk) (va_cons (ve_var (pv 1)) (va_cons (ve_var (pv 2)) va_nil (by rfl)) (by rfl)) (vk_cons (ve_var (pv 6)) vk_nil)) (ve_callK (fun ta tk ha hk => gp_callK (ok_cost T) (hr.mono (by omega)) gd (by rfl) T.g_cost T.F_cost.kp (kb_cost T) pass0 ha hk) (va_cons (ve_var (pv 1)) (va_cons (ve_bin op_subA ops_sub (ve_var (pv 5)) (ve_var (pv 2))) va_nil (by rfl)) (by rfl)) (vk_cons (ve_bin op_addAll ops_add (ve_var (pv 6)) (ve_var (pv 2))) vk_nil))) (nomark _)) (vss_one (vs_ret ve_bl)) vss_nil)
  (vss_cons (vs_if (vt_cmp (op_neAll (hu64 hr)) ops_ne (ve_callK (fun ta tk ha hk => gp_callK (ok_cost T) (hr.mono (by omega)) gd (by rfl) T.g_cost T.F_cost.kp (kb_cost T) pass0 ha hk) (va_cons (ve_call (fun ta ha => gp_call (ok_law_finer T) (hr.mono (by omega)) gd (by rfl) T.g_law_finer T.F_law_finer.kp (bi_law_finer T) .nil pass0 ha) (fun _ _ => .nil) (va_cons (ve_var (pv 0)) (va_cons (ve_var (pv 1)) va_nil (by rfl)) (by rfl))) (va_cons (ve_var (pv 5)) va_nil (by rfl)) (by rfl)) (vk_cons (ve_var (pv 6)) vk_nil)) (ve_var (pv 3)) (nomark _)) (vss_one (vs_ret ve_bl)) vss_nil)
  (vss_cons (vs_if (vt_cmp (op_neAll (hu64 hr)) ops_ne (ve_callK (fun ta tk ha hk => gp_callK (ok_cost T) (hr.mono (by omega)) gd (by rfl) T.g_cost T.F_cost.kp (kb_cost T) pass0 ha hk) (va_cons (ve_var (pv 1)) (va_cons ve_int va_nil (by rfl)) (by rfl)) (vk_cons (ve_var (pv 6)) vk_nil)) ve_int (nomark _)) (vss_one (vs_ret ve_bl)) vss_nil)
  (vss_cons (vs_asg (fun te he => ps_set (i := 4) sc_law_parted_right.nd rfl (Or.inl rfl) he) (ve_cb (fun ta ha => pe_callTy call_tupOfN (by rfl) T.b_tuple (by decide +kernel) ha) cs_tuple (va_cons (ve_lc (fun _ _ _ _ a b c d => pe_lc (own := [("_law_start", 7), ("_law_coins_now", 8)]) rfl sc_law_parted_right.nd a (blkOk_by (own := [("_law_start", 7), ("_law_coins_now", 8)]) (N := N_law_parted_right) (sc := defScope s_law_parted_right) (by decide +kernel)) b c d) (vi_seq (ve_var (pv 1))) (fun _ _ _ _ _ => (vtg_tup rfl (vtgs_cons (vtg_name (pg_name (i := 7) sc_law_parted_right.nd rfl (Or.inl rfl))) (vtgs_cons (vtg_name (pg_name (i := 8) sc_law_parted_right.nd rfl (Or.inl rfl))) vtgs_nil (fun _ _ a b => pgs_cons a b)) (fun _ _ a b => pgs_cons a b)) (by rfl) (by rfl))) (fun _ _ _ _ _ => vts_nil) (fun _ _ _ _ _ => (ve_tup (va_cons (ve_var (pv 7)) (va_cons (ve_bin op_mulAll ops_mulAll (ve_var (pv 8)) ve_int) va_nil (by rfl)) (by rfl)))) (by decide)) va_nil (by rfl))))
  (vss_cons (vs_if (vt_cmp (op_neAll (hu64 hr)) ops_ne (ve_callK (fun ta tk ha hk => gp_callK (ok_cost T) (hr.mono (by omega)) gd (by rfl) T.g_cost T.F_cost.kp (kb_cost T) pass0 ha hk) (va_cons (ve_var (pv 4)) (va_cons (ve_var (pv 5)) va_nil (by rfl)) (by rfl)) (vk_cons (ve_var (pv 6)) vk_nil)) (ve_bin op_mulAll ops_mulAll (ve_var (pv 3)) ve_int) (nomark _)) (vss_one (vs_ret ve_bl)) vss_nil)
  (vss_one (vs_ret (ve_cmp (op_eqAll (hu64 hr)) ops_eq (let ⟨ds, hv, hb⟩ := bd_cost T; ve_call (fun ta ha => gp_call (ok_cost T) (hr.mono (by omega)) gd (by rfl) T.g_cost T.F_cost.kp hb hv pass0 ha) (fun F H => dr_cost T F H) (va_cons (ve_var (pv 1)) (va_cons (ve_bin op_addAll ops_add (ve_var (pv 6)) (ve_var (pv 5))) va_nil (by rfl)) (by rfl))) (ve_bin op_addAll ops_add (let ⟨ds, hv, hb⟩ := bd_cost T; ve_call (fun ta ha => gp_call (ok_cost T) (hr.mono (by omega)) gd (by rfl) T.g_cost T.F_cost.kp hb hv pass0 ha) (fun F H => dr_cost T F H) (va_cons (ve_var (pv 1)) (va_cons (ve_var (pv 6)) va_nil (by rfl)) (by rfl))) (ve_var (pv 3))) (nomark _)))))))))))) (by omega)
def b_are_tiers_0 : TVS := (vRet (vAndV (vBin (fEq false) (vBin fIx (vBin fIx (vVar 0) (vC (.int 0))) (vC (.int 0))) (vC (.int 0))) (vCall 1 m_are_rising [] (vCons (vLc (vSeqI (vVar 0)) (vgName 1) (fun _ Q => Q true) (vBin fIx (vVar 1) (vC (.int 0))) [1]) vNil))))
def b_are_tiers_1 : TVS := (vSeq (vIfS (vOr (vNotT (vTest (vIsi "tuple" (vVar 0)))) (vOr (vNotT (vTest (vChain fLeD fLeD (vC (.int 1)) (vCB fLen (vCons (vVar 0) vNil)) (vC (PyData.int (4)))))) (vNotT (vTest (vCB fAll (vCons (vLc (vSeqI (vVar 0)) (vgName 2) (fun _ Q => Q true) (vCall 1 m_is_tier [] (vCons (vVar 2) vNil)) [2]) vNil)))))) (vRet (vC (.bool false))) vNext)
  b_are_tiers_0)
def t_are_tiers : TVS := (vSeq (vIfS (vOr (vNotT (vTest (vIsi "tuple" (vVar 0)))) (vOr (vNotT (vTest (vChain fLeD fLeD (vC (.int 1)) (vCB fLen (vCons (vVar 0) vNil)) (vC (PyData.int (4)))))) (vNotT (vTest (vCB fAll (vCons (vLc (vSeqI (vVar 0)) (vgName 2) (fun _ Q => Q true) (vCall 1 m_is_tier [] (vCons (vVar 2) vNil)) [2]) vNil)))))) (vRet (vC (.bool false))) vNext)
  (vRet (vAndV (vBin (fEq false) (vBin fIx (vBin fIx (vVar 0) (vC (.int 0))) (vC (.int 0))) (vC (.int 0))) (vCall 1 m_are_rising [] (vCons (vLc (vSeqI (vVar 0)) (vgName 1) (fun _ Q => Q true) (vBin fIx (vVar 1) (vC (.int 0))) [1]) vNil)))))
def m_are_tiers : TF := vDef 3 t_are_tiers
theorem e_are_tiers : m_are_tiers = vDef 3 b_are_tiers_1 := rfl
set_option maxHeartbeats 4000000 in
theorem ok_are_tiers (T : Txt K mg w) : GOk P w K mg base CX0 4 T.a_are_tiers T.fd_are_tiers ["thing"] (spOf K 1 0 m_are_tiers) := by
  refine def_bodyD T.F_are_tiers sc_are_tiers fun f cdv A outer s H E hr gd => ?_
  exact ex_k (vss_cons (vs_if (vw_pt (vw_or (vt_not (vt_val (ve_isi (fun te he => pe_callB call_isi (by rfl) T.b_isinstance (by decide +kernel) (pa_cons he (pa_cons (pe_bltn (v := .ty "tuple") (by rfl) T.b_tuple (by decide +kernel) rfl) pa_nil))) tok_tuple (.ty _) (ve_var (pv 0))) (by intro _; rfl))) (vw_or (vt_not (vt_chain op_leAll op_leAll ops_leD ops_leD ve_int (ve_cb (fun ta ha => pe_callB call_lenA (by rfl) T.b_len (by decide +kernel) ha) cs_len (va_cons (ve_var (pv 0)) va_nil (by rfl))) (ve_c (v := .int (4)) (Exists.elim T.g_MOST_TIERS fun _ e => pe_glob (by rfl) e ⟨_, rfl⟩) fun _ _ => .int _) (fun _ _ _ a b c => pt_chain op_leAll op_leAll a b c))) (vw_one (vt_not (vt_val (ve_cb (fun ta ha => pe_callB (cr_all rfl) (by rfl) T.b_all (by decide +kernel) ha) cs_all (va_cons (ve_lc (fun _ _ _ _ a b c d => pe_lc (own := [("part", 2)]) rfl sc_are_tiers.nd a (blkOk_by (own := [("part", 2)]) (N := N_are_tiers) (sc := defScope s_are_tiers) (by decide +kernel)) b c d) (vi_seq (ve_var (pv 0))) (fun _ _ _ _ _ => (vtg_name (pg_name (i := 2) sc_are_tiers.nd rfl (Or.inl rfl)))) (fun _ _ _ _ _ => vts_nil) (fun _ _ _ _ _ => (ve_call (fun ta ha => gp_call (ok_is_tier T) (hr.mono (by omega)) gd (by rfl) T.g_is_tier T.F_is_tier.kp (bi_is_tier T) .nil pass0 ha) (fun _ _ => .nil) (va_cons (ve_var (pv 2)) va_nil (by rfl)))) (by decide)) va_nil (by rfl))) (by intro _; rfl))))))) (vss_one (vs_ret ve_bl)) vss_nil)
  (vss_one (vs_ret (ve_and (ve_cmp (op_eqAll (hu64 hr)) ops_eq (ve_ix ix_seq ops_ix (ve_ix ix_seq ops_ix (ve_var (pv 0)) ve_int (fun _ _ => rfl)) ve_int (fun _ _ => rfl)) ve_int (nomark _)) (ve_one (ve_call (fun ta ha => gp_call (ok_are_rising T) (hr.mono (by omega)) gd (by rfl) T.g_are_rising T.F_are_rising.kp (bi_are_rising T) .nil pass0 ha) (fun _ _ => .nil) (va_cons (ve_lc (fun _ _ _ _ a b c d => pe_lc (own := [("tier", 1)]) rfl sc_are_tiers.nd a (blkOk_by (own := [("tier", 1)]) (N := N_are_tiers) (sc := defScope s_are_tiers) (by decide +kernel)) b c d) (vi_seq (ve_var (pv 0))) (fun _ _ _ _ _ => (vtg_name (pg_name (i := 1) sc_are_tiers.nd rfl (Or.inl rfl)))) (fun _ _ _ _ _ => vts_nil) (fun _ _ _ _ _ => (ve_ix ix_seq ops_ix (ve_var (pv 1)) ve_int (fun _ _ => rfl))) (by decide)) va_nil (by rfl)))))))) (by omega)
def t_bill_of : TVS := (vRet (vCB fTuple (vCons (vLc (vSeqI (vVar 0)) (vgTup 3 (vgCons (vgName 4) (vgCons (vgName 5) (vgCons (vgName 6) vgNil)))) (vTest (vBin (fEq false) (vVar 4) (vVar 1))) (vTup (vCons (vVar 1) (vCons (vVar 5) (vCons (vVar 6) (vCons (vCallK 3 2 5 m_coins_on (vCons (vVar 0) (vCons (vVar 1) (vCons (vVar 5) vNil))) (vCons (vVar 2) (vCons (vVar 3) vNil))) vNil))))) [4, 5, 6]) vNil)))
def m_bill_of : TF := vDef 7 t_bill_of
theorem e_bill_of : m_bill_of = vDef 7 (vRet (vCB fTuple (vCons (vLc (vSeqI (vVar 0)) (vgTup 3 (vgCons (vgName 4) (vgCons (vgName 5) (vgCons (vgName 6) vgNil)))) (vTest (vBin (fEq false) (vVar 4) (vVar 1))) (vTup (vCons (vVar 1) (vCons (vVar 5) (vCons (vVar 6) (vCons (vCallK 3 2 5 m_coins_on (vCons (vVar 0) (vCons (vVar 1) (vCons (vVar 5) vNil))) (vCons (vVar 2) (vCons (vVar 3) vNil))) vNil))))) [4, 5, 6]) vNil))) := rfl
set_option maxHeartbeats 4000000 in
theorem ok_bill_of (T : Txt K mg w) : GOk P w K mg base CX0 4 T.a_bill_of T.fd_bill_of ["notes", "day", "prices", "calendar"] (spOf K 4 0 m_bill_of) := by
  refine def_bodyD T.F_bill_of sc_bill_of fun f cdv A outer s H E hr gd => ?_
  exact ex_k (vss_one (vs_ret (ve_cb (fun ta ha => pe_callTy call_tupOfN (by rfl) T.b_tuple (by decide +kernel) ha) cs_tuple (va_cons (ve_lc (fun _ _ _ _ a b c d => pe_lc (own := [("noted_day", 4), ("kind", 5), ("units", 6)]) rfl sc_bill_of.nd a (blkOk_by (own := [("noted_day", 4), ("kind", 5), ("units", 6)]) (N := N_bill_of) (sc := defScope s_bill_of) (by decide +kernel)) b c d) (vi_seq (ve_var (pv 0))) (fun _ _ _ _ _ => (vtg_tup rfl (vtgs_cons (vtg_name (pg_name (i := 4) sc_bill_of.nd rfl (Or.inl rfl))) (vtgs_cons (vtg_name (pg_name (i := 5) sc_bill_of.nd rfl (Or.inl rfl))) (vtgs_cons (vtg_name (pg_name (i := 6) sc_bill_of.nd rfl (Or.inl rfl))) vtgs_nil (fun _ _ a b => pgs_cons a b)) (fun _ _ a b => pgs_cons a b)) (fun _ _ a b => pgs_cons a b)) (by rfl) (by rfl))) (fun _ _ _ _ _ => (vts_one (vt_cmp (op_eqAll (hu64 hr)) ops_eq (ve_var (pv 4)) (ve_var (pv 1)) (nomark _)))) (fun _ _ _ _ _ => (ve_tup (va_cons (ve_var (pv 1)) (va_cons (ve_var (pv 5)) (va_cons (ve_var (pv 6)) (va_cons (ve_callK (fun ta tk ha hk => gp_callK (ok_coins_on T) (hr.mono (by omega)) gd (by rfl) T.g_coins_on T.F_coins_on.kp (kb_coins_on T) pass0 ha hk) (va_cons (ve_var (pv 0)) (va_cons (ve_var (pv 1)) (va_cons (ve_var (pv 5)) va_nil (by rfl)) (by rfl)) (by rfl)) (vk_cons (ve_var (pv 2)) (vk_cons (ve_var (pv 3)) vk_nil))) va_nil (by rfl)) (by rfl)) (by rfl)) (by rfl)))) (by decide)) va_nil (by rfl))))) (by omega)
def t_is_price : TVS := (vRet (vAndV (vCall 2 m_is_tuple_of [] (vCons (vVar 0) (vCons (vC (.int 2)) vNil))) (vAndV (vCall 1 m_is_kind [] (vCons (vBin fIx (vVar 0) (vC (.int 0))) vNil)) (vCall 1 m_are_tiers [] (vCons (vBin fIx (vVar 0) (vC (.int 1))) vNil)))))
def m_is_price : TF := vDef 1 t_is_price
theorem e_is_price : m_is_price = vDef 1 (vRet (vAndV (vCall 2 m_is_tuple_of [] (vCons (vVar 0) (vCons (vC (.int 2)) vNil))) (vAndV (vCall 1 m_is_kind [] (vCons (vBin fIx (vVar 0) (vC (.int 0))) vNil)) (vCall 1 m_are_tiers [] (vCons (vBin fIx (vVar 0) (vC (.int 1))) vNil))))) := rfl
set_option maxHeartbeats 4000000 in
theorem ok_is_price (T : Txt K mg w) : GOk P w K mg base CX0 5 T.a_is_price T.fd_is_price ["thing"] (spOf K 1 0 m_is_price) := by
  refine def_bodyD T.F_is_price sc_is_price fun f cdv A outer s H E hr gd => ?_
  exact ex_k (vss_one (vs_ret (ve_and (ve_call (fun ta ha => gp_call (ok_is_tuple_of T) (hr.mono (by omega)) gd (by rfl) T.g_is_tuple_of T.F_is_tuple_of.kp (bi_is_tuple_of T) .nil pass0 ha) (fun _ _ => .nil) (va_cons (ve_var (pv 0)) (va_cons ve_int va_nil (by rfl)) (by rfl))) (ve_and (ve_call (fun ta ha => gp_call (ok_is_kind T) (hr.mono (by omega)) gd (by rfl) T.g_is_kind T.F_is_kind.kp (bi_is_kind T) .nil pass0 ha) (fun _ _ => .nil) (va_cons (ve_ix ix_seq ops_ix (ve_var (pv 0)) ve_int (fun _ _ => rfl)) va_nil (by rfl))) (ve_one (ve_call (fun ta ha => gp_call (ok_are_tiers T) (hr.mono (by omega)) gd (by rfl) T.g_are_tiers T.F_are_tiers.kp (bi_are_tiers T) .nil pass0 ha) (fun _ _ => .nil) (va_cons (ve_ix ix_seq ops_ix (ve_var (pv 0)) ve_int (fun _ _ => rfl)) va_nil (by rfl)))))))) (by omega)
def b_bills_until_0 : TVS := (vRet (vCB fTuple (vCons (vVar 4) vNil)))
def b_bills_until_1 : TVS := (vSeq (vFor (vSeqI (vSortSc (vSeqI (vVar 0)) (vgName 6) (vTest (vBin fLtD (vBin fIx (vVar 6) (vC (.int 0))) (vVar 1))) (vBin fIx (vVar 6) (vC (.int 0))) [6])) (vgName 5)
  (vExtendQ 4 (vCallK 2 2 4 m_bill_of (vCons (vVar 0) (vCons (vVar 5) vNil)) (vCons (vVar 2) (vCons (vVar 3) vNil)))))
  b_bills_until_0)
def b_bills_until_2 : TVS := (vSeq (vAsgO 4 (vLst vNil))
  b_bills_until_1)
def t_bills_until : TVS := (vSeq (vAsgO 4 (vLst vNil))
  (vSeq (vFor (vSeqI (vSortSc (vSeqI (vVar 0)) (vgName 6) (vTest (vBin fLtD (vBin fIx (vVar 6) (vC (.int 0))) (vVar 1))) (vBin fIx (vVar 6) (vC (.int 0))) [6])) (vgName 5)
  (vExtendQ 4 (vCallK 2 2 4 m_bill_of (vCons (vVar 0) (vCons (vVar 5) vNil)) (vCons (vVar 2) (vCons (vVar 3) vNil)))))
  (vRet (vCB fTuple (vCons (vVar 4) vNil)))))
def m_bills_until : TF := vDef 7 t_bills_until
theorem e_bills_until : m_bills_until = vDef 7 b_bills_until_2 := rfl
set_option maxHeartbeats 4000000 in
theorem ok_bills_until (T : Txt K mg w) : GOk P w K mg base CX0 5 T.a_bills_until T.fd_bills_until ["notes", "until", "prices", "calendar"] (spOf K 4 0 m_bills_until) := by
  refine def_bodyD T.F_bills_until sc_bills_until fun f cdv A outer s H E hr gd => ?_
  exact ex_k (vss_cons (vs_asgO (fun te he => ps_set (i := 4) sc_bills_until.nd rfl (Or.inl rfl) he) (ve_lst va_nil))
  (vss_cons (vs_for (fun _ _ _ a b c => ps_for PassesOwn.never rfl a b c) (vi_seq (ve_sortSc (fun _ _ _ _ a b c d => pe_callB (cr_sortedSet rfl) (by rfl) T.b_sorted (by decide +kernel) (pa_cons (pe_scI (own := [("note", 6)]) rfl sc_bills_until.nd a (blkOk_by (own := [("note", 6)]) (N := N_bills_until) (sc := defScope s_bills_until) (by decide +kernel)) b c d) pa_nil)) (vi_seq (ve_var (pv 0))) (fun _ _ _ _ _ => (vtg_name (pg_name (i := 6) sc_bills_until.nd rfl (Or.inl rfl)))) (fun _ _ _ _ _ => (vts_one (vt_cmp (op_ltAll hr) ops_ltAll (ve_ix ix_seq ops_ix (ve_var (pv 6)) ve_int (fun _ _ => rfl)) (ve_var (pv 1)) (nomark _)))) (fun _ _ _ _ _ => (ve_ix ix_seq ops_ix (ve_var (pv 6)) ve_int (fun _ _ => rfl))) (by decide))) (vtg_name (pg_name (i := 5) sc_bills_until.nd rfl (Or.inl rfl)))
  (vss_one (vs_extendQ (fun te he => ps_expr (pe_bm PySem.F.plainAttrs_list PySem.F.slot_list_extend PySem.F.type_list_extend mt_extendQ (pv 4) (pa_cons he pa_nil))) (ve_callK (fun ta tk ha hk => gp_callK (ok_bill_of T) (hr.mono (by omega)) gd (by rfl) T.g_bill_of T.F_bill_of.kp (kb_bill_of T) pass0 ha hk) (va_cons (ve_var (pv 0)) (va_cons (ve_var (pv 5)) va_nil (by rfl)) (by rfl)) (vk_cons (ve_var (pv 2)) (vk_cons (ve_var (pv 3)) vk_nil))))))
  (vss_one (vs_ret (ve_cb (fun ta ha => pe_callTy call_tupOfN (by rfl) T.b_tuple (by decide +kernel) ha) cs_tuple (va_cons (ve_var (pv 4)) va_nil (by rfl))))))) (by omega)
def b_is_prices_0 : TVS := (vRet (vCall 1 m_are_rising [] (vCons (vLc (vSeqI (vVar 0)) (vgName 1) (fun _ Q => Q true) (vBin fIx (vVar 1) (vC (.int 0))) [1]) vNil)))
def b_is_prices_1 : TVS := (vSeq (vIfS (vOr (vNotT (vTest (vIsi "tuple" (vVar 0)))) (vNotT (vTest (vCB fAll (vCons (vLc (vSeqI (vVar 0)) (vgName 2) (fun _ Q => Q true) (vCall 1 m_is_price [] (vCons (vVar 2) vNil)) [2]) vNil))))) (vRet (vC (.bool false))) vNext)
  b_is_prices_0)
def t_is_prices : TVS := (vSeq (vIfS (vOr (vNotT (vTest (vIsi "tuple" (vVar 0)))) (vNotT (vTest (vCB fAll (vCons (vLc (vSeqI (vVar 0)) (vgName 2) (fun _ Q => Q true) (vCall 1 m_is_price [] (vCons (vVar 2) vNil)) [2]) vNil))))) (vRet (vC (.bool false))) vNext)
  (vRet (vCall 1 m_are_rising [] (vCons (vLc (vSeqI (vVar 0)) (vgName 1) (fun _ Q => Q true) (vBin fIx (vVar 1) (vC (.int 0))) [1]) vNil))))
def m_is_prices : TF := vDef 3 t_is_prices
theorem e_is_prices : m_is_prices = vDef 3 b_is_prices_1 := rfl
set_option maxHeartbeats 4000000 in
theorem ok_is_prices (T : Txt K mg w) : GOk P w K mg base CX0 6 T.a_is_prices T.fd_is_prices ["thing"] (spOf K 1 0 m_is_prices) := by
  refine def_bodyD T.F_is_prices sc_is_prices fun f cdv A outer s H E hr gd => ?_
  exact ex_k (vss_cons (vs_if (vw_pt (vw_or (vt_not (vt_val (ve_isi (fun te he => pe_callB call_isi (by rfl) T.b_isinstance (by decide +kernel) (pa_cons he (pa_cons (pe_bltn (v := .ty "tuple") (by rfl) T.b_tuple (by decide +kernel) rfl) pa_nil))) tok_tuple (.ty _) (ve_var (pv 0))) (by intro _; rfl))) (vw_one (vt_not (vt_val (ve_cb (fun ta ha => pe_callB (cr_all rfl) (by rfl) T.b_all (by decide +kernel) ha) cs_all (va_cons (ve_lc (fun _ _ _ _ a b c d => pe_lc (own := [("part", 2)]) rfl sc_is_prices.nd a (blkOk_by (own := [("part", 2)]) (N := N_is_prices) (sc := defScope s_is_prices) (by decide +kernel)) b c d) (vi_seq (ve_var (pv 0))) (fun _ _ _ _ _ => (vtg_name (pg_name (i := 2) sc_is_prices.nd rfl (Or.inl rfl)))) (fun _ _ _ _ _ => vts_nil) (fun _ _ _ _ _ => (ve_call (fun ta ha => gp_call (ok_is_price T) (hr.mono (by omega)) gd (by rfl) T.g_is_price T.F_is_price.kp (bi_is_price T) .nil pass0 ha) (fun _ _ => .nil) (va_cons (ve_var (pv 2)) va_nil (by rfl)))) (by decide)) va_nil (by rfl))) (by intro _; rfl)))))) (vss_one (vs_ret ve_bl)) vss_nil)
  (vss_one (vs_ret (ve_call (fun ta ha => gp_call (ok_are_rising T) (hr.mono (by omega)) gd (by rfl) T.g_are_rising T.F_are_rising.kp (bi_are_rising T) .nil pass0 ha) (fun _ _ => .nil) (va_cons (ve_lc (fun _ _ _ _ a b c d => pe_lc (own := [("price", 1)]) rfl sc_is_prices.nd a (blkOk_by (own := [("price", 1)]) (N := N_is_prices) (sc := defScope s_is_prices) (by decide +kernel)) b c d) (vi_seq (ve_var (pv 0))) (fun _ _ _ _ _ => (vtg_name (pg_name (i := 1) sc_is_prices.nd rfl (Or.inl rfl)))) (fun _ _ _ _ _ => vts_nil) (fun _ _ _ _ _ => (ve_ix ix_seq ops_ix (ve_var (pv 1)) ve_int (fun _ _ => rfl))) (by decide)) va_nil (by rfl)))))) (by omega)
def b_law_days_right_0 : TVS := (vPutK 7 (vBin fDiv (vVar 2) (vBin fIx (vVar 5) (vC (.int 1)))) (vBin fAdd (vGet2 (vVar 7) (vBin fDiv (vVar 2) (vBin fIx (vVar 5) (vC (.int 1)))) (vC (.int 0))) (vVar 8)))
def b_law_days_right_1 : TVS := (vSeq (vAsg 6 (vCall 4 m_noted [] (vCons (vVar 6) (vCons (vVar 2) (vCons (vC (.str "steps")) (vCons (vVar 8) vNil))))))
  b_law_days_right_0)
def b_law_days_right_2 : TVS := (vSeq (vAsg 8 (vCall 1 m_law_great [] (vCons (vVar 0) vNil)))
  b_law_days_right_1)
def b_law_days_right_3 : TVS := (vIfS (vTest (vBin (fEq true) (vVar 9) (vCall 3 m_cost [(PyData.int (0))] (vCons (vVar 1) (vCons (vBin fGItem (vVar 7) (vVar 4)) vNil))))) (vRet (vC (.bool false))) vNext)
def b_law_days_right_4 : TVS := (vSeq (vAsg 9 (vCB fSumQ (vCons (vLc (vSeqI (vVar 3)) (vgName 10) (vTest (vBin (fEq false) (vBin fDiv (vBin fIx (vVar 10) (vC (.int 0))) (vBin fIx (vVar 5) (vC (.int 1)))) (vVar 4))) (vBin fIx (vVar 10) (vC (.int 3))) [10]) vNil)))
  b_law_days_right_3)
def b_law_days_right_5 : TVS := (vRet (vC (.bool true)))
def b_law_days_right_6 : TVS := (vSeq (vForK 7 (vgName 4)
  b_law_days_right_4)
  b_law_days_right_5)
def b_law_days_right_7 : TVS := (vSeq (vAsg 3 (vCallK 2 2 4 m_bills_until (vCons (vVar 6) (vCons (vC (.int 6)) vNil)) (vCons (vTup (vCons (vTup (vCons (vC (.str "steps")) (vCons (vVar 1) vNil))) vNil)) (vCons (vVar 5) vNil))))
  b_law_days_right_6)
def b_law_days_right_8 : TVS := (vSeq (vForL 100 (vRng1 (vCons (vC (.int 6)) vNil)) (vgName 2)
  b_law_days_right_2)
  b_law_days_right_7)
def b_law_days_right_9 : TVS := (vSeq (vParN [5, 6, 7] (vCons (vTup (vCons (vC (.int 1)) (vCons (vBin fAdd (vC (.int 1)) (vCall 2 m_law_pick [] (vCons (vVar 0) (vCons (vC (.int 4)) vNil)))) vNil))) (vCons (vTup vNil) (vCons vDNewK vNil))))
  b_law_days_right_8)
def t_law_days_right : TVS := (vSeq (vParN [5, 6, 7] (vCons (vTup (vCons (vC (.int 1)) (vCons (vBin fAdd (vC (.int 1)) (vCall 2 m_law_pick [] (vCons (vVar 0) (vCons (vC (.int 4)) vNil)))) vNil))) (vCons (vTup vNil) (vCons vDNewK vNil))))
  (vSeq (vForL 100 (vRng1 (vCons (vC (.int 6)) vNil)) (vgName 2)
  (vSeq (vAsg 8 (vCall 1 m_law_great [] (vCons (vVar 0) vNil)))
  (vSeq (vAsg 6 (vCall 4 m_noted [] (vCons (vVar 6) (vCons (vVar 2) (vCons (vC (.str "steps")) (vCons (vVar 8) vNil))))))
  (vPutK 7 (vBin fDiv (vVar 2) (vBin fIx (vVar 5) (vC (.int 1)))) (vBin fAdd (vGet2 (vVar 7) (vBin fDiv (vVar 2) (vBin fIx (vVar 5) (vC (.int 1)))) (vC (.int 0))) (vVar 8))))))
  (vSeq (vAsg 3 (vCallK 2 2 4 m_bills_until (vCons (vVar 6) (vCons (vC (.int 6)) vNil)) (vCons (vTup (vCons (vTup (vCons (vC (.str "steps")) (vCons (vVar 1) vNil))) vNil)) (vCons (vVar 5) vNil))))
  (vSeq (vForK 7 (vgName 4)
  (vSeq (vAsg 9 (vCB fSumQ (vCons (vLc (vSeqI (vVar 3)) (vgName 10) (vTest (vBin (fEq false) (vBin fDiv (vBin fIx (vVar 10) (vC (.int 0))) (vBin fIx (vVar 5) (vC (.int 1)))) (vVar 4))) (vBin fIx (vVar 10) (vC (.int 3))) [10]) vNil)))
  (vIfS (vTest (vBin (fEq true) (vVar 9) (vCall 3 m_cost [(PyData.int (0))] (vCons (vVar 1) (vCons (vBin fGItem (vVar 7) (vVar 4)) vNil))))) (vRet (vC (.bool false))) vNext)))
  (vRet (vC (.bool true)))))))
def m_law_days_right : TF := vDef 11 t_law_days_right
theorem e_law_days_right : m_law_days_right = vDef 11 b_law_days_right_9 := rfl
set_option maxHeartbeats 4000000 in
theorem ok_law_days_right (T : Txt K mg w) : GOk P w K mg base CX0 6 T.a_law_days_right T.fd_law_days_right ["_law_tap_here", "_law_tiers_here"] (spOf K 2 501 m_law_days_right) := by
  refine def_bodyD T.F_law_days_right sc_law_days_right fun f cdv A outer s H E hr gd => ?_
  exact ex_k (vss_cons (vs_parN (is := [5, 6, 7]) (fun ta ha => ps_asg (pe_tup ha) (pg_tup (by rfl) (pgs_cons (pg_name (i := 5) sc_law_days_right.nd rfl (Or.inr rfl)) (pgs_cons (pg_name (i := 6) sc_law_days_right.nd rfl (Or.inl rfl)) (pgs_cons (pg_name (i := 7) sc_law_days_right.nd rfl (Or.inl rfl)) pgs_nil))))) (vd_cons (ve_tup (va_cons ve_int (va_cons (ve_bin op_addAll ops_add ve_int (ve_call (fun ta ha => gp_call (ok_law_pick T) (hr.mono (by omega)) gd (by rfl) T.g_law_pick T.F_law_pick.kp (bi_law_pick T) .nil pass0 ha) (fun _ _ => .nil) (va_cons (ve_var (pv 0)) (va_cons ve_int va_nil (by rfl)) (by rfl)))) va_nil (by rfl)) (by rfl))) (vd_cons (ve_tup va_nil) (vd_cons ve_dnewK vd_nil (by rfl)) (by rfl)) (by rfl)))
  (vss_cons (vs_forL 100 (fun _ _ _ a b c => ps_for PassesOwn.never rfl a b c) (vi_range1 (fun ta ha => pi_range1 (by rfl) T.b_range ha) (va_cons ve_int va_nil (by rfl))) (vtg_name (pg_name (i := 2) sc_law_days_right.nd rfl (Or.inl rfl)))
  (vss_cons (vs_asg (fun te he => ps_set (i := 8) sc_law_days_right.nd rfl (Or.inl rfl) he) (ve_call (fun ta ha => gp_call (ok_law_great T) (hr.mono (by omega)) gd (by rfl) T.g_law_great T.F_law_great.kp (bi_law_great T) .nil pass0 ha) (fun _ _ => .nil) (va_cons (ve_var (pv 0)) va_nil (by rfl))))
  (vss_cons (vs_asg (fun te he => ps_set (i := 6) sc_law_days_right.nd rfl (Or.inl rfl) he) (ve_call (fun ta ha => gp_call (ok_noted T) (hr.mono (by omega)) gd (by rfl) T.g_noted T.F_noted.kp (bi_noted T) .nil pass0 ha) (fun _ _ => .nil) (va_cons (ve_var (pv 6)) (va_cons (ve_var (pv 2)) (va_cons ve_str (va_cons (ve_var (pv 8)) va_nil (by rfl)) (by rfl)) (by rfl)) (by rfl))))
  (vss_one (vs_putK (fun ty tw hy hw => ps_dput (hu_of hr) (pv 7) hy hw rfl) (ve_bin op_fdivW ops_div (ve_var (pv 2)) (ve_ix ix_seq ops_ix (ve_var (pv 5)) ve_int (fun _ _ => rfl))) (ve_bin op_addAll ops_add (ve_get2 (hu_of hr) (ve_var (pv 7)) (ve_bin op_fdivW ops_div (ve_var (pv 2)) (ve_ix ix_seq ops_ix (ve_var (pv 5)) ve_int (fun _ _ => rfl))) ve_int ⟨rfl, rfl, rfl, rfl⟩) (ve_var (pv 8))))))))
  (vss_cons (vs_asg (fun te he => ps_set (i := 3) sc_law_days_right.nd rfl (Or.inl rfl) he) (ve_callK (fun ta tk ha hk => gp_callK (ok_bills_until T) (hr.mono (by omega)) gd (by rfl) T.g_bills_until T.F_bills_until.kp (kb_bills_until T) pass0 ha hk) (va_cons (ve_var (pv 6)) (va_cons ve_int va_nil (by rfl)) (by rfl)) (vk_cons (ve_tup (va_cons (ve_tup (va_cons ve_str (va_cons (ve_var (pv 1)) va_nil (by rfl)) (by rfl))) va_nil (by rfl))) (vk_cons (ve_var (pv 5)) vk_nil))))
  (vss_cons (vs_forK (fun _ _ _ a b c => ps_lock (ps_for PassesOwn.never rfl a b c)) (pv 7) (vtg_name (pg_name (i := 4) sc_law_days_right.nd rfl (Or.inr rfl)))
  (vss_cons (vs_asg (fun te he => ps_set (i := 9) sc_law_days_right.nd rfl (Or.inl rfl) he) (ve_cb (fun ta ha => pe_callB (cr_sumQ rfl) (by rfl) T.b_sum (by decide +kernel) ha) cs_sumQ (va_cons (ve_lc (fun _ _ _ _ a b c d => pe_lc (own := [("_law_row", 10)]) rfl sc_law_days_right.nd a (blkOk_by (own := [("_law_row", 10)]) (N := N_law_days_right) (sc := defScope s_law_days_right) (by decide +kernel)) b c d) (vi_seq (ve_var (pv 3))) (fun _ _ _ _ _ => (vtg_name (pg_name (i := 10) sc_law_days_right.nd rfl (Or.inl rfl)))) (fun _ _ _ _ _ => (vts_one (vt_cmp (op_eqAll (hu64 hr)) ops_eq (ve_bin op_fdivW ops_div (ve_ix ix_seq ops_ix (ve_var (pv 10)) ve_int (fun _ _ => rfl)) (ve_ix ix_seq ops_ix (ve_var (pv 5)) ve_int (fun _ _ => rfl))) (ve_var (pv 4)) (nomark _)))) (fun _ _ _ _ _ => (ve_ix ix_seq ops_ix (ve_var (pv 10)) ve_int (fun _ _ => rfl))) (by decide)) va_nil (by rfl))))
  (vss_one (vs_if (vt_cmp (op_neAll (hu64 hr)) ops_ne (ve_var (pv 9)) (let ⟨ds, hv, hb⟩ := bd_cost T; ve_call (fun ta ha => gp_call (ok_cost T) (hr.mono (by omega)) gd (by rfl) T.g_cost T.F_cost.kp hb hv pass0 ha) (fun F H => dr_cost T F H) (va_cons (ve_var (pv 1)) (va_cons (ve_gitem (hu_of hr) (ve_var (pv 7)) (ve_var (pv 4)) (fun _ _ => rfl)) va_nil (by rfl)) (by rfl))) (nomark _)) (vss_one (vs_ret ve_bl)) vss_nil))))
  (vss_one (vs_ret ve_bl)))))) (by omega)
def b_law_0 : TVS := (vIfS (vNotT (vTest (vCall 2 m_law_days_right [] (vCons (vVar 1) (vCons (vVar 3) vNil))))) (vRet (vC (.bool false))) vNext)
def b_law_1 : TVS := (vSeq (vForL 100 (vRng1 (vCons (vC (.int 3)) vNil)) (vgName 4)
  (vIfS (vNotT (vTest (vCall 2 m_law_parted_right [] (vCons (vVar 1) (vCons (vVar 3) vNil))))) (vRet (vC (.bool false))) vNext))
  b_law_0)
def b_law_2 : TVS := (vSeq (vIfS (vTest (vBin (fIsB true) (vCall 1 m_is_prices [] (vCons (vTup (vCons (vTup (vCons (vC (.str "steps")) (vCons (vVar 3) vNil))) vNil)) vNil)) (vC (.bool true)))) (vRet (vC (.bool false))) vNext)
  b_law_1)
def b_law_3 : TVS := (vSeq (vAsg 3 (vCall 1 m_law_tiers [] (vCons (vVar 1) vNil)))
  b_law_2)
def b_law_4 : TVS := (vRet (vC (.bool true)))
def b_law_5 : TVS := (vSeq (vForL 100 (vRng1 (vCons (vC (.int 5)) vNil)) (vgName 2)
  b_law_3)
  b_law_4)
def b_law_6 : TVS := (vSeq (vAsg 1 (vCall 1 m_law_tap [] (vCons (vVar 0) vNil)))
  b_law_5)
def t_law : TVS := (vSeq (vAsg 1 (vCall 1 m_law_tap [] (vCons (vVar 0) vNil)))
  (vSeq (vForL 100 (vRng1 (vCons (vC (.int 5)) vNil)) (vgName 2)
  (vSeq (vAsg 3 (vCall 1 m_law_tiers [] (vCons (vVar 1) vNil)))
  (vSeq (vIfS (vTest (vBin (fIsB true) (vCall 1 m_is_prices [] (vCons (vTup (vCons (vTup (vCons (vC (.str "steps")) (vCons (vVar 3) vNil))) vNil)) vNil)) (vC (.bool true)))) (vRet (vC (.bool false))) vNext)
  (vSeq (vForL 100 (vRng1 (vCons (vC (.int 3)) vNil)) (vgName 4)
  (vIfS (vNotT (vTest (vCall 2 m_law_parted_right [] (vCons (vVar 1) (vCons (vVar 3) vNil))))) (vRet (vC (.bool false))) vNext))
  (vIfS (vNotT (vTest (vCall 2 m_law_days_right [] (vCons (vVar 1) (vCons (vVar 3) vNil))))) (vRet (vC (.bool false))) vNext)))))
  (vRet (vC (.bool true)))))
def m_law : TF := vDef 5 t_law
theorem e_law : m_law = vDef 5 b_law_6 := rfl
set_option maxHeartbeats 4000000 in
theorem ok_law (T : Txt K mg w) : GOk P w K mg base CX0 7 T.a_law T.fd_law ["_law_script"] (spOf K 1 240200 m_law) := by
  refine def_bodyD T.F_law sc_law fun f cdv A outer s H E hr gd => ?_
  exact ex_k (vss_cons (vs_asg (fun te he => ps_set (i := 1) sc_law.nd rfl (Or.inl rfl) he) (ve_call (fun ta ha => gp_call (ok_law_tap T) (hr.mono (by omega)) gd (by rfl) T.g_law_tap T.F_law_tap.kp (bi_law_tap T) .nil pass0 ha) (fun _ _ => .nil) (va_cons (ve_var (pv 0)) va_nil (by rfl))))
  (vss_cons (vs_forL 100 (fun _ _ _ a b c => ps_for PassesOwn.never rfl a b c) (vi_range1 (fun ta ha => pi_range1 (by rfl) T.b_range ha) (va_cons ve_int va_nil (by rfl))) (vtg_name (pg_name (i := 2) sc_law.nd rfl (Or.inl rfl)))
  (vss_cons (vs_asg (fun te he => ps_set (i := 3) sc_law.nd rfl (Or.inl rfl) he) (ve_call (fun ta ha => gp_call (ok_law_tiers T) (hr.mono (by omega)) gd (by rfl) T.g_law_tiers T.F_law_tiers.kp (bi_law_tiers T) .nil pass0 ha) (fun _ _ => .nil) (va_cons (ve_var (pv 1)) va_nil (by rfl))))
  (vss_cons (vs_if (vt_cmp op_notBl ops_notB (ve_call (fun ta ha => gp_call (ok_is_prices T) (hr.mono (by omega)) gd (by rfl) T.g_is_prices T.F_is_prices.kp (bi_is_prices T) .nil pass0 ha) (fun _ _ => .nil) (va_cons (ve_tup (va_cons (ve_tup (va_cons ve_str (va_cons (ve_var (pv 3)) va_nil (by rfl)) (by rfl))) va_nil (by rfl))) va_nil (by rfl))) ve_bl (nomark _)) (vss_one (vs_ret ve_bl)) vss_nil)
  (vss_cons (vs_forL 100 (fun _ _ _ a b c => ps_for PassesOwn.never rfl a b c) (vi_range1 (fun ta ha => pi_range1 (by rfl) T.b_range ha) (va_cons ve_int va_nil (by rfl))) (vtg_name (pg_name (i := 4) sc_law.nd rfl (Or.inl rfl)))
  (vss_one (vs_if (vt_not (vt_val (ve_call (fun ta ha => gp_call (ok_law_parted_right T) (hr.mono (by omega)) gd (by rfl) T.g_law_parted_right T.F_law_parted_right.kp (bi_law_parted_right T) .nil pass0 ha) (fun _ _ => .nil) (va_cons (ve_var (pv 1)) (va_cons (ve_var (pv 3)) va_nil (by rfl)) (by rfl))) (by intro _; rfl))) (vss_one (vs_ret ve_bl)) vss_nil)))
  (vss_one (vs_if (vt_not (vt_val (ve_call (fun ta ha => gp_call (ok_law_days_right T) (hr.mono (by omega)) gd (by rfl) T.g_law_days_right T.F_law_days_right.kp (bi_law_days_right T) .nil pass0 ha) (fun _ _ => .nil) (va_cons (ve_var (pv 1)) (va_cons (ve_var (pv 3)) va_nil (by rfl)) (by rfl))) (by intro _; rfl))) (vss_one (vs_ret ve_bl)) vss_nil))))))
  (vss_one (vs_ret ve_bl)))) (by omega)
end
theorem loop_inv {g : TGt} {t : TVS} {E : VEnds} {I : VL.Env → Prop} {P : PyData → Prop}
    (hb : ∀ d ρ (N : VL.Env → Prop), P d → I ρ → (∀ ρ', I ρ' → N ρ') → g d ρ fun ρ' => t { E with nx := N, ct := N, bk := E.nx } ρ') (he : ∀ ρ, I ρ → E.nx ρ) :
    ∀ (ds : List PyData) (ρ : VL.Env), (∀ d ∈ ds, P d) → I ρ → vLoop g t E ds ρ
  | [], ρ, _, h => he ρ h
  | d :: ds, ρ, hp, h => hb d ρ _ (hp d (by simp)) h fun ρ' h' => loop_inv hb he ds ρ' (fun x hx => hp x (by simp [hx])) h'
theorem loop_cnt {g : TGt} {t : TVS} {E : VEnds} {I : Nat → VL.Env → Prop} {P : PyData → Prop} {T : Nat}
    (hb : ∀ i d ρ (N : VL.Env → Prop), i < T → P d → I i ρ → (∀ ρ', I (i + 1) ρ' → N ρ') → g d ρ fun ρ' => t { E with nx := N, ct := N, bk := E.nx } ρ') (he : ∀ ρ, I T ρ → E.nx ρ) :
    ∀ (ds : List PyData) (i : Nat) (ρ : VL.Env), i + ds.length = T → (∀ d ∈ ds, P d) → I i ρ → vLoop g t E ds ρ
  | [], i, ρ, hT, _, h => he ρ (by rw [← hT]; exact h)
  | d :: ds, i, ρ, hT, hp, h => by
    rw [List.length_cons] at hT
    exact hb i d ρ _ (by omega) (hp d (by simp)) h fun ρ' h' => loop_cnt hb he ds (i + 1) ρ' (by omega) (fun x hx => hp x (by simp [hx])) h'
theorem lp_cons {g : TGt} {t : TVS} {E : VEnds} {d : PyData} {ds : List PyData} {ρ : VL.Env} : vLoop g t E (d :: ds) ρ = g d ρ fun ρ' => t { E with nx := fun ρ'' => vLoop g t E ds ρ'', ct := fun ρ'' => vLoop g t E ds ρ'', bk := E.nx } ρ' := rfl
theorem lp_nil {g : TGt} {t : TVS} {E : VEnds} {ρ : VL.Env} : vLoop g t E [] ρ = E.nx ρ := rfl
theorem cl_cons {g : TGt} {c : TVb} {t : TV} {w : VL.Env} {d : PyData} {ds acc : List PyData} {Q : List PyData → Prop} : cLoop g c t w (d :: ds) acc Q = g d w fun ρ' => c ρ' fun b => if b = true then t ρ' fun s => ∃ z, datasIn [s] = some [z] ∧ acc.length < 100000 ∧ cLoop g c t w ds (acc ++ [z]) Q else cLoop g c t w ds acc Q := rfl
theorem cl_nil {g : TGt} {c : TVb} {t : TV} {w : VL.Env} {acc : List PyData} {Q : List PyData → Prop} : cLoop g c t w [] acc Q = Q acc := rfl
theorem m_rng1 {t : TVs} {ρ : VL.Env} {Q : List PyData → Prop} : vRng1 t ρ Q = t ρ fun ss => ∃ n : Int, ss = [.v (.int n)] ∧ n < 2 ^ 62 ∧ -(2 ^ 62) ≤ n ∧ Q ((List.range n.toNat).map fun (i : Nat) => PyData.int (0 + (i : Int))) := rfl
theorem m_isN {neg : Bool} {d : PyData} {Q : SV → Prop} : fIsN neg (.v d) (.v .none) Q = Q (.v (.bool (if neg then !isNoneD d else isNoneD d))) := by simp [fIsN, SV.asD]
local macro_rules | `(tactic| walk_at "wl") => `(tactic| (first | (walk_at "vl"; (try (simp only [m_lc, m_rng1, m_seqI, vVar, wipeV]; (try walk_at "vl")))) | (simp only [m_lc, m_rng1, m_seqI, vVar, wipeV]; (try walk_at "vl")) | skip))
local macro_rules | `(tactic| walk_at "wm") => `(tactic| (walk_at "wl"; (try (simp only [Bool.true_eq_false, if_false, if_true, Bool.not_true, Bool.not_false]; (try walk_at "wl")))))
theorem ixT_at {ds : List PyData} {k : Nat} {d : PyData} {Q : SV → Prop} (h : ds[k]? = some d) (q : Q (.v d)) : fIx (.v (.tuple ds)) (.v (.int (k : Int))) Q := ⟨_, rfl, .inl ⟨ds, d, rfl, atI_nat h, q⟩⟩
theorem at0 {a : PyData} {xs : List PyData} {R : PyData → Prop} (h : R a) : ∃ z, atI (a :: xs) 0 = some z ∧ R z := ⟨a, atI_nat (j := 0) rfl, h⟩
theorem at1 {a b : PyData} {xs : List PyData} {R : PyData → Prop} (h : R b) : ∃ z, atI (a :: b :: xs) 1 = some z ∧ R z := ⟨b, atI_nat (j := 1) rfl, h⟩
theorem at2 {a b c : PyData} {xs : List PyData} {R : PyData → Prop} (h : R c) : ∃ z, atI (a :: b :: c :: xs) 2 = some z ∧ R z := ⟨c, atI_nat (j := 2) rfl, h⟩
theorem at3 {a b c d : PyData} {xs : List PyData} {R : PyData → Prop} (h : R d) : ∃ z, atI (a :: b :: c :: d :: xs) 3 = some z ∧ R z := ⟨d, atI_nat (j := 3) rfl, h⟩
theorem at4 {a b c d e : PyData} {xs : List PyData} {R : PyData → Prop} (h : R e) : ∃ z, atI (a :: b :: c :: d :: e :: xs) 4 = some z ∧ R z := ⟨e, atI_nat (j := 4) rfl, h⟩
theorem items_tup {ds : List PyData} {R : List PyData → Prop} (h : R ds) : ∃ es, SV.items (.v (.tuple ds)) = some es ∧ R es := ⟨ds, rfl, h⟩
theorem items_own {ds : List PyData} {R : List PyData → Prop} (h : R ds) : ∃ es, SV.items (.own ds) = some es ∧ R es := ⟨ds, rfl, h⟩
theorem items_lst {ds : List PyData} {R : List PyData → Prop} (h : R ds) : ∃ es, SV.items (.v (.list ds)) = some es ∧ R es := ⟨ds, rfl, h⟩
theorem bb (b : Bool) : (b == b) = true := by cases b <;> rfl
theorem eqT {x : Str} {Q : Bool → Prop} (h : Q true) : Q (x == x) := by simpa using h
theorem fge_i {i j : Int} {Q : SV → Prop} (h : Q (.v (.bool (decide (j ≤ i))))) : fGeA (.v (.int i)) (.v (.int j)) Q := .inl ⟨i, j, rfl, rfl, h⟩
theorem cloop_ty {α : Type} {g : TGt} {c : TVb} {t : TV} {w : VL.Env} (m : α → PyData) (f : α → Option PyData) : ∀ {as : List α} {acc : List PyData} {Q : List PyData → Prop},
    (∀ a ∈ as, ∀ (K1 : PyData → Prop) (K2 : Prop), (∀ z, f a = some z → K1 z) → (f a = none → K2) → g (m a) w fun ρ' => c ρ' fun b => if b = true then t ρ' fun s => ∃ z, datasIn [s] = some [z] ∧ K1 z else K2) →
    acc.length + as.length ≤ 100000 → Q (acc ++ as.filterMap f) → cLoop g c t w (as.map m) acc Q
  | [], acc, Q, _, _, q => by rwa [show acc ++ [].filterMap f = acc from List.append_nil acc] at q
  | d :: ds, acc, Q, h, hl, q => by
    rw [List.length_cons] at hl
    refine h d (by simp) (fun z => acc.length < 100000 ∧ cLoop g c t w (ds.map m) (acc ++ [z]) Q) (cLoop g c t w (ds.map m) acc Q) (fun z e => ⟨by omega, ?_⟩) fun e => ?_
    · refine cloop_ty m f (fun d hd => h d (by simp [hd])) (by rw [List.length_append]; show acc.length + 1 + ds.length ≤ _; omega) ?_
      rw [List.filterMap_cons, e] at q
      rwa [List.append_assoc]
    · refine cloop_ty m f (fun d hd => h d (by simp [hd])) (by omega) ?_
      rwa [List.filterMap_cons, e] at q
/-- a comprehension without a test, by what it gives -/
theorem cloop_all {α : Type} {g : TGt} {t : TV} {w : VL.Env} (m : α → PyData) (f : α → PyData) {as : List α} {Q : List PyData → Prop}
    (h : ∀ a ∈ as, ∀ (K1 : PyData → Prop), K1 (f a) → g (m a) w fun ρ' => t ρ' fun s => ∃ z, datasIn [s] = some [z] ∧ K1 z) (hl : as.length ≤ 100000) (q : Q (as.map f)) : cLoop g (fun _ Q => Q true) t w (as.map m) [] Q := by
  refine cloop_ty m (fun a => some (f a)) (fun a ha K1 K2 k1 _ => ?_) (by simpa using hl) ?_
  · have := h a ha K1 (k1 _ rfl)
    simpa using this
  · rw [List.nil_append, show as.filterMap (fun a => some (f a)) = as.map f by rw [← List.filterMap_eq_map]; rfl]
    exact q
/-- a comprehension that leaves some out -/
theorem cloop_if {α : Type} {g : TGt} {c : TVb} {t : TV} {w : VL.Env} (m : α → PyData) (p : α → Bool) (f : α → PyData) {as : List α} {Q : List PyData → Prop}
    (h : ∀ a ∈ as, ∀ (K1 : PyData → Prop) (K2 : Prop), (p a = true → K1 (f a)) → (p a = false → K2) → g (m a) w fun ρ' => c ρ' fun b => if b = true then t ρ' fun s => ∃ z, datasIn [s] = some [z] ∧ K1 z else K2) (hl : as.length ≤ 100000) (q : Q ((as.filter p).map f)) : cLoop g c t w (as.map m) [] Q := by
  have fm : ∀ as : List α, as.filterMap (fun a => if p a = true then some (f a) else none) = (as.filter p).map f := by
    intro as
    induction as with
    | nil => rfl
    | cons a as ih => rw [List.filterMap_cons, List.filter_cons]; cases e : p a <;> simp [ih]
  refine cloop_ty m (fun a => if p a = true then some (f a) else none) (fun a ha K1 K2 k1 k2 => ?_) (by simpa using hl) (by rw [List.nil_append, fm]; exact q)
  exact h a ha K1 K2 (fun e => k1 _ (if_pos e)) fun e => k2 (if_neg (by simp [e]))
theorem all_bools {α : Type} {as : List α} {p : α → Bool} {s : SV} {Q : SV → Prop} (hs : s.asL = some (as.map fun a => PyData.bool (p a))) (h : Q (.v (.bool (as.all p)))) : fAll [s] Q := by
  refine ⟨s, as.map p, rfl, by rw [hs, List.map_map]; rfl, ?_⟩
  rw [List.all_map]
  exact h
theorem ifn {c : Bool} {a b : Prop} (e : c = false) (h : b) : if c = true then a else b := by rw [e]; exact h
theorem ify {c : Bool} {a b : Prop} (e : c = true) (h : a) : if c = true then a else b := by rw [e]; exact h
theorem ifp {p : Prop} [Decidable p] {a b : Prop} (e : p) (h : a) : if p then a else b := (if_pos e).mpr h
theorem ifq {p : Prop} [Decidable p] {a b : Prop} (e : ¬ p) (h : b) : if p then a else b := (if_neg e).mpr h
theorem loop_ix {g : TGt} {t : TVS} {E : VEnds} {I : Nat → VL.Env → Prop} {T : Nat} (f : Nat → PyData)
    (hb : ∀ i ρ (N : VL.Env → Prop), i < T → I i ρ → (∀ ρ', I (i + 1) ρ' → N ρ') → g (f i) ρ fun ρ' => t { E with nx := N, ct := N, bk := E.nx } ρ') (he : ∀ ρ, I T ρ → E.nx ρ) :
    ∀ (n i : Nat) (ρ : VL.Env), i + n = T → I i ρ → vLoop g t E ((List.range' i n).map f) ρ
  | 0, i, ρ, hT, h => he ρ (by rw [← hT]; exact h)
  | n + 1, i, ρ, hT, h => by
    rw [List.range'_succ, List.map_cons, lp_cons]
    exact hb i ρ _ (by omega) h fun ρ' h' => loop_ix f hb he n (i + 1) ρ' (by omega) h'
theorem ix_last {xs : List PyData} {x : PyData} {R : PyData → Prop} (h : R x) : ∃ d, atI (xs ++ [x]) (-1) = some d ∧ R d := by
  refine ⟨x, ?_, h⟩
  unfold atI ixN
  rw [if_neg (by decide), List.length_append]
  simp only [Int.reduceNeg, List.length_cons, List.length_nil]
  rw [if_pos (by omega)]
  show (xs ++ [x])[_]? = some x
  have e : ((-1 : Int) + ((xs.length + (0 + 1) : Nat) : Int)).toNat = xs.length := by omega
  rw [e]
  simp
theorem m_rng2 {t : TVs} {ρ : VL.Env} {Q : List PyData → Prop} : vRng2 t ρ Q = t ρ fun ss => ∃ a b : Int, ss = [.v (.int a), .v (.int b)] ∧ a < 2 ^ 62 ∧ -(2 ^ 62) ≤ a ∧ b < 2 ^ 62 ∧ -(2 ^ 62) ≤ b ∧ Q ((List.range (b - a).toNat).map fun (i : Nat) => PyData.int (a + (i : Int))) := rfl
/-! ### costs -/
abbrev Ti := Int × Int
def tD (p : Ti) : PyData := .tuple [.int p.1, .int p.2]
def tsD (ts : List Ti) : PyData := .tuple (ts.map tD)
def mx0 (a : Int) : Int := if a > 0 then a else 0
def mxi (a b : Int) : Int := if b > a then b else a
def mni (a b : Int) : Int := if b < a then b else a
/-- what units from a to before b cost -/
def cst (a b : Int) : List Ti → Int
  | [] => 0
  | [p] => p.2 * mx0 (b - mxi p.1 a)
  | p :: q :: ts => p.2 * mx0 (mni b q.1 - mxi p.1 a) + cst a b (q :: ts)
def coinAt (ts : List Ti) (n : Int) : Int := match (ts.filter fun p => decide (p.1 ≤ n)).getLast? with
  | some p => p.2
  | none => 0
abbrev Ris (ts : List Ti) : Prop := ts.Pairwise fun p q => p.1 < q.1
theorem coin_none {ts : List Ti} {n : Int} (h : ∀ p ∈ ts, n < p.1) : coinAt ts n = 0 := by
  unfold coinAt
  rw [List.filter_eq_nil_iff.mpr fun p hp => by have := h p hp; simp; omega]
  rfl
theorem coin_tail {p q : Ti} {ts : List Ti} {n : Int} (h : q.1 ≤ n) : coinAt (p :: q :: ts) n = coinAt (q :: ts) n := by
  unfold coinAt
  have e2 : (q :: ts).filter (fun p => decide (p.1 ≤ n)) = q :: ts.filter (fun p => decide (p.1 ≤ n)) := by rw [List.filter_cons, if_pos (by simpa using h)]
  rw [List.filter_cons (x := p), e2]
  by_cases e : p.1 ≤ n
  · rw [if_pos (by simpa using e), List.getLast?_cons_cons]
  · rw [if_neg (by simpa using e)]
theorem coin_head {p : Ti} {ts : List Ti} {n : Int} (h : ∀ q ∈ ts, n < q.1) : coinAt (p :: ts) n = if p.1 ≤ n then p.2 else 0 := by
  unfold coinAt
  rw [List.filter_cons, List.filter_eq_nil_iff.mpr fun q hq => by have := h q hq; simp; omega]
  by_cases e : p.1 ≤ n
  · rw [if_pos e, if_pos (by simpa using e)]
    rfl
  · rw [if_neg e, if_neg (by simpa using e)]
    rfl
theorem mul_succ' {c m : Int} : c * (m + 1) = c * m + c := by rw [Int.mul_add, Int.mul_one]
theorem one_step {c s a b : Int} (h : a ≤ b) : c * mx0 (b + 1 - mxi s a) = c * mx0 (b - mxi s a) + if s ≤ b then c else 0 := by
  by_cases e : s ≤ b
  · rw [if_pos e]
    have h1 : mx0 (b + 1 - mxi s a) = mx0 (b - mxi s a) + 1 := by unfold mx0 mxi; split <;> split <;> split <;> omega
    rw [h1, mul_succ']
  · rw [if_neg e]
    have h1 : mx0 (b + 1 - mxi s a) = mx0 (b - mxi s a) := by unfold mx0 mxi; split <;> split <;> split <;> omega
    rw [h1, Int.add_zero]
theorem cst_step {a b : Int} (h : a ≤ b) : ∀ {ts : List Ti}, Ris ts → cst a (b + 1) ts = cst a b ts + coinAt ts b
  | [], _ => rfl
  | [p], _ => by
    rw [coin_head (by simp)]
    exact one_step h
  | p :: q :: ts, r => by
    have hp := List.pairwise_cons.mp r
    have hq := List.pairwise_cons.mp hp.2
    have ih := cst_step h hp.2
    show p.2 * mx0 (mni (b + 1) q.1 - mxi p.1 a) + cst a (b + 1) (q :: ts) = p.2 * mx0 (mni b q.1 - mxi p.1 a) + cst a b (q :: ts) + _
    by_cases e : q.1 ≤ b
    · have h1 : mni (b + 1) q.1 = mni b q.1 := by unfold mni; split <;> split <;> omega
      rw [h1, ih, coin_tail e]
      omega
    · have lt : ∀ x ∈ q :: ts, b < x.1 := fun x hx => by
        rcases List.mem_cons.mp hx with rfl | hx
        · omega
        · have := hq.1 x hx; omega
      have h1 : mni (b + 1) q.1 = b + 1 := by unfold mni; split <;> omega
      have h2 : mni b q.1 = b := by unfold mni; split <;> omega
      rw [h1, h2, ih, coin_none lt, coin_head lt, one_step h]
      omega
theorem cst_void {a : Int} : ∀ {ts : List Ti}, cst a a ts = 0
  | [] => rfl
  | [p] => by
    show p.2 * mx0 (a - mxi p.1 a) = 0
    have : mx0 (a - mxi p.1 a) = 0 := by unfold mx0 mxi; split <;> split <;> omega
    rw [this, Int.mul_zero]
  | p :: q :: ts => by
    show p.2 * mx0 (mni a q.1 - mxi p.1 a) + cst a a (q :: ts) = 0
    have : mx0 (mni a q.1 - mxi p.1 a) = 0 := by unfold mx0 mxi mni; split <;> split <;> split <;> omega
    rw [this, Int.mul_zero, cst_void]
    rfl
/-- unit by unit -/
def sumU (ts : List Ti) (a : Int) : Nat → Int
  | 0 => 0
  | n + 1 => sumU ts a n + coinAt ts (a + n)
theorem sum_cst {ts : List Ti} (r : Ris ts) {a : Int} : ∀ n : Nat, sumU ts a n = cst a (a + n) ts
  | 0 => by
    rw [show a + ((0 : Nat) : Int) = a by omega, cst_void]
    rfl
  | n + 1 => by
    rw [show a + ((n + 1 : Nat) : Int) = a + n + 1 by omega, cst_step (by omega) r, ← sum_cst r n]
    rfl
structure GTi (ts : List Ti) : Prop where
  ri : Ris ts
  nn : ∀ p ∈ ts, 0 ≤ p.1 ∧ p.1 ≤ 1000000 ∧ 0 ≤ p.2 ∧ p.2 ≤ 10000000
  ln : ts.length ≤ 4
section
variable {ts : List Ti} {Q : SV → Prop}
theorem GTi.tl {p : Ti} {ts : List Ti} (g : GTi (p :: ts)) : GTi ts := ⟨(List.pairwise_cons.mp g.ri).2, fun q hq => g.nn q (by simp [hq]), by have := g.ln; rw [List.length_cons] at this; omega⟩
/-- the place of a tier in what an enumeration gives -/
def enL : Nat → List Ti → List PyData
  | _, [] => []
  | k, p :: ts => .tuple [.int k, tD p] :: enL (k + 1) ts
theorem en_from : ∀ (ts : List Ti) (k : Nat), zipD ((List.range' k ts.length).map fun i => PyData.int ((i : Nat) : Int)) (ts.map tD) = enL k ts
  | [], k => rfl
  | p :: ts, k => by
    rw [List.length_cons, List.range'_succ, List.map_cons, List.map_cons]
    unfold zipD
    rw [List.zip_cons_cons, List.map_cons]
    have := en_from ts (k + 1)
    unfold zipD at this
    rw [this]
    rfl
theorem en_eq (ts : List Ti) : enumD (ts.map tD) = enL 0 ts := by
  unfold enumD
  rw [List.length_map, List.range_eq_range']
  exact en_from ts 0
theorem sp_cost (g : GTi ts) {many before : Nat} (hm : many ≤ 10000000) (hb : before ≤ 10000000) (h : Q (.v (.int (cst before (before + many) ts)))) : m_cost [.v (tsD ts), .v (.int many), .v (.int before)] Q := by
  rw [e_cost]
  unfold b_cost_5
  walk_at "wl"
  unfold b_cost_4
  simp only [tsD]
  walk_at "wl"
  rw [en_eq]
  have lp : ∀ (suf pre : List Ti) (acc : Int) (x4 x5 x6 x7 : SV), ts = pre ++ suf → GTi suf → Q (.v (.int (acc + cst before (before + many) suf))) →
      vLoop (vgTup 2 (vgCons (vgName 4) (vgCons (vgTup 2 (vgCons (vgName 6) (vgCons (vgName 7) vgNil))) vgNil))) b_cost_2
        { nx := b_cost_3 { nx := fun x => Q (SV.v PyData.none), rt := Q, bk := fun x => False, ct := fun x => False }, rt := Q, bk := fun x => False, ct := fun x => False }
        (enL pre.length suf) [.v (.tuple (ts.map tD)), .v (.int many), .v (.int before), .v (.int acc), x4, x5, x6, x7] := by
    intro suf
    induction suf with
    | nil =>
      intro pre acc x4 x5 x6 x7 _ _ q
      unfold enL
      rw [lp_nil]
      dsimp only
      unfold b_cost_3
      walk_at "wl"
      have e : cst (before : Int) (before + many) [] = 0 := rfl
      rw [e, Int.add_zero] at q
      exact q
    | cons p suf ih =>
      intro pre acc x4 x5 x6 x7 et gs q
      unfold enL
      rw [lp_cons]
      obtain ⟨n0, n1, n2, n3⟩ := gs.nn p (by simp)
      have ih1 := fun acc x4 x5 x6 x7 => ih (pre ++ [p]) acc x4 x5 x6 x7 (by rw [et, List.append_assoc]; rfl) gs.tl
      rw [List.length_append, show [p].length = 1 from rfl] at ih1
      generalize hM : (fun ρ'' => vLoop _ _ _ (enL (pre.length + 1) suf) ρ'') = M
      have ih2 : ∀ (acc : Int) (x4 x5 x6 x7 : SV), Q (.v (.int (acc + cst before (before + many) suf))) → M [.v (.tuple (ts.map tD)), .v (.int many), .v (.int before), .v (.int acc), x4, x5, x6, x7] := fun acc x4 x5 x6 x7 c => by rw [← hM]; exact ih1 acc x4 x5 x6 x7 c
      clear hM
      have lt : ts.length = pre.length + (suf.length + 1) := by rw [et, List.length_append, List.length_cons]
      rw [show tD p = .tuple [.int p.1, .int p.2] from rfl]
      walk_at "wl"
      unfold b_cost_2
      walk_at "wl"
      unfold b_cost_1
      walk_at "wl"
      rw [List.length_map]
      cases suf with
      | nil =>
        refine ifq (by rw [lt]; simp) ?_
        unfold b_cost_0
        walk_at "wl"
        refine ⟨mulL (by omega) (by omega), ?_⟩
        exact ih2 _ _ _ _ _ (by
          have : cst (before : Int) (before + many) [] = 0 := rfl
          rw [this, Int.add_zero]
          exact q)
      | cons r suf =>
        refine ifp (by rw [lt]; simp; omega) ?_
        have ea : atI (ts.map tD) ((pre.length : Int) + 1) = some (tD r) := by
          rw [show (pre.length : Int) + 1 = ((pre.length + 1 : Nat) : Int) by omega]
          refine atI_nat ?_
          rw [List.getElem?_map, et, List.getElem?_append_right (by omega)]
          rw [show pre.length + 1 - pre.length = 1 by omega]
          rfl
        refine ⟨_, ea, ?_⟩
        rw [show tD r = .tuple [.int r.1, .int r.2] from rfl]
        walk_at "wl"
        refine at0 ?_
        walk_at "wl"
        unfold b_cost_0
        walk_at "wl"
        exact ⟨mulL (by omega) (by omega), ih2 _ _ _ _ _ (by rw [Int.add_assoc]; exact q)⟩
  exact lp ts [] 0 _ _ _ _ rfl g (by rw [Int.zero_add]; exact h)
end
/-! ### prices judged -/
def numB : PyData → Bool
  | .int i => decide (0 ≤ i)
  | _ => false
theorem sp_num {d : PyData} {Q : SV → Prop} (h : Q (.v (.bool (numB d)))) : m_is_number [.v d] Q := by
  unfold m_is_number t_is_number
  walk_at "wl"
  unfold m_is_whole t_is_whole
  cases d <;> walk_at "wl" <;> first | exact h | (simpa [numB] using h)
def tierB : PyData → Bool
  | .tuple [a, b] => numB a && numB b
  | _ => false
theorem sp_is_tuple_of {ds : List PyData} {n : Int} {Q : SV → Prop} (h : Q (.v (.bool (decide ((ds.length : Int) = n))))) : m_is_tuple_of [.v (.tuple ds), .v (.int n)] Q := by
  unfold m_is_tuple_of t_is_tuple_of
  walk_at "wl"
  rw [show ((ds.length : Int) == n) = decide ((ds.length : Int) = n) from rfl]
  exact h
theorem sp_is_tuple_no {d : PyData} {n : Int} (nt : isT "tuple" d = false) {Q : SV → Prop} (h : Q (.v (.bool false))) : m_is_tuple_of [.v d, .v (.int n)] Q := by
  unfold m_is_tuple_of t_is_tuple_of
  walk_at "wl"
  rw [nt]
  exact h
theorem tier_len {ds : List PyData} (h : ds.length ≠ 2) : tierB (.tuple ds) = false := by
  match ds, h with
  | [], _ => rfl
  | [_], _ => rfl
  | [_, _], h => exact absurd rfl h
  | _ :: _ :: _ :: _, _ => rfl
theorem sp_is_tier {d : PyData} {Q : SV → Prop} (h : Q (.v (.bool (tierB d)))) : m_is_tier [.v d] Q := by
  unfold m_is_tier t_is_tier
  walk_at "wl"
  cases d with
  | tuple ds =>
    refine sp_is_tuple_of ?_
    refine ⟨_, rfl, ?_⟩
    by_cases hl : ds.length = 2
    · refine ify (decide_eq_true (by omega)) ?_
      obtain ⟨a, b, rfl⟩ : ∃ a b, ds = [a, b] := by
        match ds, hl with
        | [a, b], _ => exact ⟨a, b, rfl⟩
      walk_at "wl"
      refine at0 ?_
      refine sp_num ?_
      refine ⟨_, rfl, ?_⟩
      simp only [tierB] at h
      cases e : numB a with
      | true =>
        rw [e, Bool.true_and] at h
        refine ify rfl ?_
        walk_at "wl"
        refine at1 (sp_num ⟨_, rfl, h⟩)
      | false =>
        rw [e] at h
        exact ifn rfl h
    · rw [tier_len hl] at h
      exact ifn (decide_eq_false (by omega)) h
  | _ => exact sp_is_tuple_no rfl ⟨_, rfl, ifn rfl h⟩
def startI : PyData → Int
  | .tuple (.int i :: _) => i
  | _ => 0
def risI (is : List Int) : Bool := (List.range (is.length - 1)).all fun k => decide (is.getD k 0 < is.getD (k + 1) 0)
theorem at_int {is : List Int} {k : Nat} {i : Int} (hi : i = k) (hk : k < is.length) {R : PyData → Prop} (h : R (.int (is.getD k 0))) : ∃ d, atI (is.map PyData.int) i = some d ∧ R d := by
  refine ⟨_, ?_, h⟩
  rw [hi]
  refine atI_nat ?_
  rw [List.getElem?_map, List.getD_eq_getElem?_getD, List.getElem?_eq_getElem hk]
  rfl
theorem sp_rising_i {is : List Int} (hl : is.length ≤ 1000) {s : SV} (hs : s = .v (.list (is.map .int))) {Q : SV → Prop} (h : Q (.v (.bool (risI is)))) : m_are_rising [s] Q := by
  subst hs
  unfold m_are_rising t_are_rising
  walk_at "wl"
  refine ⟨_, rfl, by rw [List.length_map]; omega, by rw [List.length_map]; omega, ?_⟩
  rw [List.length_map, show (Int.toNat ((is.length : Int) - 1)) = is.length - 1 by omega]
  refine cloop_all (as := List.range (is.length - 1)) (fun (k : Nat) => PyData.int (0 + (k : Int))) (fun k => .bool (decide (is.getD k 0 < is.getD (k + 1) 0))) (fun k hk K1 k1 => ?_) (by rw [List.length_range]; omega) ?_
  · rw [List.mem_range] at hk
    walk_at "wl"
    refine at_int (k := k) (by omega) (by omega) ?_
    refine at_int (k := k + 1) (by omega) (by omega) ?_
    walk_at "wl"
    exact k1
  · exact all_bools (as := List.range (is.length - 1)) (p := fun k => decide (is.getD k 0 < is.getD (k + 1) 0)) rfl ⟨_, rfl, h⟩
def tiersB : PyData → Bool
  | .tuple xs => decide (1 ≤ xs.length ∧ xs.length ≤ 4) && (xs.all tierB && (decide (startI (xs.getD 0 .none) = 0) && risI (xs.map startI)))
  | _ => false
theorem tier_start {d : PyData} (h : tierB d = true) : ∃ i b, d = .tuple [.int i, b] ∧ startI d = i := by
  match d, h with
  | .tuple [.int i, b], _ => exact ⟨i, b, rfl, rfl⟩
  | .tuple [.none, b], h => simp [tierB, numB] at h
  | .tuple [.bool _, b], h => simp [tierB, numB] at h
  | .tuple [.str _, b], h => simp [tierB, numB] at h
  | .tuple [.tuple _, b], h => simp [tierB, numB] at h
  | .tuple [.list _, b], h => simp [tierB, numB] at h
  | .tuple [], h => simp [tierB] at h
  | .tuple [_], h => simp [tierB] at h
  | .tuple (_ :: _ :: _ :: _), h => simp [tierB] at h
theorem sp_are_tiers {d : PyData} {Q : SV → Prop} (h : Q (.v (.bool (tiersB d)))) : m_are_tiers [.v d] Q := by
  rw [e_are_tiers]
  unfold b_are_tiers_1
  walk_at "wl"
  cases d with
  | tuple xs =>
    refine ifq (by simp [isT, tyName]) ?_
    walk_at "wl"
    by_cases h1 : 1 ≤ (xs.length : Int)
    · refine ifp h1 ?_
      by_cases h4 : (xs.length : Int) ≤ 4
      · refine ifq (by omega) ?_
        refine ⟨xs, rfl, ?_⟩
        refine cloop_map (fun d => .bool (tierB d)) (fun d hd K1 K2 k1 => ?_) (by omega) ?_
        · walk_at "wl"
          exact sp_is_tier ⟨_, rfl, k1⟩
        · refine all_bools (as := xs) (p := tierB) rfl ?_
          refine ⟨_, rfl, ?_⟩
          simp only [tiersB] at h
          rw [decide_eq_true (show 1 ≤ xs.length ∧ xs.length ≤ 4 by omega), Bool.true_and] at h
          cases ea : xs.all tierB with
          | false =>
            rw [ea] at h
            exact ifp rfl h
          | true =>
            rw [ea, Bool.true_and] at h
            refine ifq (by simp) ?_
            unfold b_are_tiers_0
            walk_at "wl"
            have al := List.all_eq_true.mp ea
            match xs, h1, h, al with
            | x :: xs, _, h, al =>
              obtain ⟨i, b, rfl, ei⟩ := tier_start (al x (by simp))
              refine at0 ?_
              walk_at "wl"
              refine at0 ?_
              walk_at "wl"
              rw [show startI ((PyData.tuple [PyData.int i, b] :: xs).getD 0 PyData.none) = i from rfl] at h
              by_cases e0 : i = 0
              · rw [decide_eq_true e0, Bool.true_and] at h
                refine ifp (beq_iff_eq.mpr e0) ?_
                refine ⟨_, rfl, ?_⟩
                refine cloop_map (fun d => .int (startI d)) (fun d hd K1 K2 k1 => ?_) (by omega) ?_
                · obtain ⟨j, c, rfl, ej⟩ := tier_start (al d hd)
                  walk_at "wl"
                  refine at0 ?_
                  rw [ej] at k1
                  exact k1
                · refine sp_rising_i (is := (PyData.tuple [PyData.int i, b] :: xs).map startI) (by rw [List.length_map]; omega) (by rw [List.map_map]; rfl) ?_
                  exact ⟨_, rfl, h⟩
              · rw [decide_eq_false e0] at h
                exact ifq (fun e => e0 (beq_iff_eq.mp e)) h
      · refine ifp (by omega) ?_
        have : tiersB (.tuple xs) = false := by simp only [tiersB]; rw [decide_eq_false (by omega)]; rfl
        rw [this] at h
        exact h
    · refine ifq h1 ?_
      have : tiersB (.tuple xs) = false := by simp only [tiersB]; rw [decide_eq_false (by omega)]; rfl
      rw [this] at h
      exact h
  | _ => exact ifp rfl h
def kindB (d : PyData) : Bool := [PyData.str "letters", .str "room", .str "steps"].any (PyData.eqv · d)
theorem sp_in_kind {b c n : Nat} {d : PyData} {neg : Bool} (g : Gm b c n d) (hn : n ≤ 60) {Q : SV → Prop} (h : Q (.v (.bool (if neg = true then !kindB d else kindB d)))) : fInD neg (.v d) (.v (.tuple [.str "letters", .str "room", .str "steps"])) Q :=
  .inr ⟨_, _, rfl, rfl, SeqAt.canLay_of_shaped (g.shaped (by omega)), Nat.le_trans g.dp hn, by decide +kernel, h⟩
theorem sp_is_kind {b c n : Nat} {d : PyData} (g : Gm b c n d) (hn : n ≤ 60) {Q : SV → Prop} (h : Q (.v (.bool (kindB d)))) : m_is_kind [.v d] Q := by
  unfold m_is_kind t_is_kind
  walk_at "wl"
  exact sp_in_kind g hn ⟨_, rfl, h⟩
theorem kind_no {d : PyData} (h : isT "str" d = false) : kindB d = false := by
  cases d with
  | str s => simp [isT, tyName] at h
  | _ => rfl
def priceB : PyData → Bool
  | .tuple [a, b] => kindB a && tiersB b
  | _ => false
theorem price_len {ds : List PyData} (h : ds.length ≠ 2) : priceB (.tuple ds) = false := by
  match ds, h with
  | [], _ => rfl
  | [_], _ => rfl
  | [_, _], h => exact absurd rfl h
  | _ :: _ :: _ :: _, _ => rfl
theorem sp_is_price {b c n : Nat} {d : PyData} (g : Gm b c n d) (hn : n ≤ 60) {Q : SV → Prop} (h : Q (.v (.bool (priceB d)))) : m_is_price [.v d] Q := by
  unfold m_is_price t_is_price
  walk_at "wl"
  cases d with
  | tuple ds =>
    refine sp_is_tuple_of ?_
    refine ⟨_, rfl, ?_⟩
    by_cases hl : ds.length = 2
    · refine ify (decide_eq_true (by omega)) ?_
      obtain ⟨x, y, rfl⟩ : ∃ a b, ds = [a, b] := by
        match ds, hl with
        | [a, b], _ => exact ⟨a, b, rfl⟩
      have ga := g.untup
      walk_at "wl"
      refine at0 ?_
      refine sp_is_kind ga.head hn ?_
      refine ⟨_, rfl, ?_⟩
      simp only [priceB] at h
      cases e : kindB x with
      | true =>
        rw [e, Bool.true_and] at h
        refine ify rfl ?_
        walk_at "wl"
        refine at1 (sp_are_tiers ⟨_, rfl, h⟩)
      | false =>
        rw [e] at h
        exact ifn rfl h
    · rw [price_len hl] at h
      exact ifn (decide_eq_false (by omega)) h
  | _ => exact sp_is_tuple_no rfl ⟨_, rfl, ifn rfl h⟩
def nameS : PyData → Str
  | .tuple (.str s :: _) => s
  | _ => ⟨#[]⟩
def nmL (ss : List Str) (k : Nat) : List Nat := (ss.getD k ⟨#[]⟩).cps.toList
def risS (ss : List Str) : Bool := (List.range (ss.length - 1)).all fun k => decide (nmL ss k < nmL ss (k + 1))
theorem at_str {ss : List Str} {k : Nat} {i : Int} (hi : i = k) (hk : k < ss.length) {R : PyData → Prop} (h : R (.str (ss.getD k ⟨#[]⟩))) : ∃ d, atI (ss.map PyData.str) i = some d ∧ R d := by
  refine ⟨_, ?_, h⟩
  rw [hi]
  refine atI_nat ?_
  rw [List.getElem?_map, List.getD_eq_getElem?_getD, List.getElem?_eq_getElem hk]
  rfl
theorem sp_rising_s {ss : List Str} (hl : ss.length ≤ 10000) {s : SV} (hs : s = .v (.list (ss.map .str))) {Q : SV → Prop} (h : Q (.v (.bool (risS ss)))) : m_are_rising [s] Q := by
  subst hs
  unfold m_are_rising t_are_rising
  walk_at "wl"
  refine ⟨_, rfl, by rw [List.length_map]; omega, by rw [List.length_map]; omega, ?_⟩
  rw [List.length_map, show (Int.toNat ((ss.length : Int) - 1)) = ss.length - 1 by omega]
  refine cloop_all (as := List.range (ss.length - 1)) (fun (k : Nat) => PyData.int (0 + (k : Int))) (fun k => .bool (decide (nmL ss k < nmL ss (k + 1)))) (fun k hk K1 k1 => ?_) (by rw [List.length_range]; omega) ?_
  · rw [List.mem_range] at hk
    walk_at "wl"
    refine at_str (k := k) (by omega) (by omega) ?_
    refine at_str (k := k + 1) (by omega) (by omega) ?_
    walk_at "wl"
    exact k1
  · exact all_bools (as := List.range (ss.length - 1)) (p := fun k => decide (nmL ss k < nmL ss (k + 1))) rfl ⟨_, rfl, h⟩
theorem price_name {d : PyData} (h : priceB d = true) : ∃ s b, d = .tuple [.str s, b] ∧ nameS d = s := by
  match d, h with
  | .tuple [.str i, b], _ => exact ⟨i, b, rfl, rfl⟩
  | .tuple [.none, b], h => simp [priceB, kind_no (d := .none) rfl] at h
  | .tuple [.bool x, b], h => simp [priceB, kind_no (d := .bool x) rfl] at h
  | .tuple [.int x, b], h => simp [priceB, kind_no (d := .int x) rfl] at h
  | .tuple [.tuple x, b], h => simp [priceB, kind_no (d := .tuple x) rfl] at h
  | .tuple [.list x, b], h => simp [priceB, kind_no (d := .list x) rfl] at h
  | .tuple [.dict x, b], h => simp [priceB, kind_no (d := .dict x) rfl] at h
  | .tuple [], h => simp [priceB] at h
  | .tuple [_], h => simp [priceB] at h
  | .tuple (_ :: _ :: _ :: _), h => simp [priceB] at h
def pricesB : PyData → Bool
  | .tuple xs => xs.all priceB && risS (xs.map nameS)
  | _ => false
theorem sp_is_prices {b c n : Nat} {d : PyData} (g : Gm b c n d) (hn : n ≤ 60) {N : Nat} (hN : N ≤ 10000) (len : ∀ xs, d = .tuple xs → xs.length ≤ N) {Q : SV → Prop} (h : Q (.v (.bool (pricesB d)))) : m_is_prices [.v d] Q := by
  rw [e_is_prices]
  unfold b_is_prices_1
  walk_at "wl"
  cases d with
  | tuple xs =>
    have hl := len xs rfl
    have ga := g.untup
    refine ifq (by simp [isT, tyName]) ?_
    walk_at "wl"
    refine ⟨xs, rfl, ?_⟩
    refine cloop_map (fun d => .bool (priceB d)) (fun d hd K1 K2 k1 => ?_) (by omega) ?_
    · walk_at "wl"
      exact sp_is_price (ga.mem hd) (by omega) ⟨_, rfl, k1⟩
    · refine all_bools (as := xs) (p := priceB) rfl ?_
      refine ⟨_, rfl, ?_⟩
      simp only [pricesB] at h
      cases ea : xs.all priceB with
      | false =>
        rw [ea] at h
        exact ifp rfl h
      | true =>
        rw [ea, Bool.true_and] at h
        refine ifq (by simp) ?_
        unfold b_is_prices_0
        walk_at "wl"
        have al := List.all_eq_true.mp ea
        refine ⟨_, rfl, ?_⟩
        refine cloop_map (fun d => .str (nameS d)) (fun d hd K1 K2 k1 => ?_) (by omega) ?_
        · obtain ⟨j, c, rfl, ej⟩ := price_name (al d hd)
          walk_at "wl"
          refine at0 ?_
          rw [ej] at k1
          exact k1
        · refine sp_rising_s (ss := xs.map nameS) (by rw [List.length_map]; omega) (by rw [List.map_map]; rfl) ?_
          exact ⟨_, rfl, h⟩
  | _ => exact ifp rfl h
theorem zl : sizeLine = 16777216 := rfl
theorem sq {x : Str} : (x == x) = true := by simp
theorem mlt {a b : Int} (h : 0 < b) : 0 ≤ a % b ∧ a % b < b := ⟨Int.emod_nonneg _ (by omega), Int.emod_lt_of_pos _ h⟩
theorem cpw {b : Int} (h0 : 0 ≤ b) (h1 : b < 18446744073709551616) : CPow b 2 := ⟨by decide, by decide, by omega⟩
theorem mixed {c t many : Int} {P : Int → Prop} (t0 : 0 ≤ t) (t1 : t ≤ 1099511627776) (h0 : 0 < many) (fin : ∀ x, P (x % many)) :
    (0 : Int) < 2147483549 ∧ CMulA 6100417 (t + 3) ∧ CPow (c % 2147483549 + 6100417 * (t + 3)) 2 ∧ (0 : Int) < 2147483629 ∧ CMulA 5009999 t ∧
      CPow ((c % 2147483549 + 6100417 * (t + 3)) ^ Int.toNat 2 % 2147483629 + 5009999 * t + 5) 2 ∧ (0 : Int) < 2147483647 ∧ (0 : Int) < 999983 ∧ CMulA (c % 999983) 3 ∧
      CPow (((c % 2147483549 + 6100417 * (t + 3)) ^ Int.toNat 2 % 2147483629 + 5009999 * t + 5) ^ Int.toNat 2 % 2147483647 + c % 999983 * 3 + t) 2 ∧ (0 : Int) < 2147483549 ∧
      CDivW ((((c % 2147483549 + 6100417 * (t + 3)) ^ Int.toNat 2 % 2147483629 + 5009999 * t + 5) ^ Int.toNat 2 % 2147483647 + c % 999983 * 3 + t) ^ Int.toNat 2 % 2147483549) 64 ∧ 0 < many ∧
      P ((((c % 2147483549 + 6100417 * (t + 3)) ^ Int.toNat 2 % 2147483629 + 5009999 * t + 5) ^ Int.toNat 2 % 2147483647 + c % 999983 * 3 + t) ^ Int.toNat 2 % 2147483549 / 64 % many) := by
  have a1 := mlt (a := c) (b := 2147483549) (by decide)
  have a2 := mlt (a := c) (b := 999983) (by decide)
  refine ⟨by decide, mulL (by decide) (by decide), cpw (by omega) (by omega), by decide, mulL (by decide) (by decide), ?_⟩
  generalize (c % 2147483549 + 6100417 * (t + 3)) ^ Int.toNat 2 = u
  have a3 := mlt (a := u) (b := 2147483629) (by decide)
  refine ⟨cpw (by omega) (by omega), by decide, by decide, mulL (by omega) (by omega), ?_⟩
  generalize (u % 2147483629 + 5009999 * t + 5) ^ Int.toNat 2 = w
  have a4 := mlt (a := w) (b := 2147483647) (by decide)
  exact ⟨cpw (by omega) (by omega), by decide, divOk (by decide) (by decide), h0, fin _⟩
theorem sp_pick {a : Addr} {ns : List Int} {many : Int} {Q : SV → Prop} (h0 : 0 < many) (h1 : many < 1000000) (h : ∀ r, 0 ≤ r → r < many → Q (.v (.int r))) : m_law_pick [.cell a ⟨true, ns⟩, .v (.int many)] Q := by
  have fin : ∀ x : Int, Q (.v (.int (x % many))) := fun x => h _ (Int.emod_nonneg _ (by omega)) (Int.emod_lt_of_pos _ h0)
  have dm : ∀ x : Int, CDivW x many := fun x => divOk h0 (by omega)
  unfold m_law_pick t_law_pick
  try walk_at "vl"
  intro at_ left turn t0 t1
  split
  · exact ⟨dm _, h0, fin _⟩
  · cases ns with
    | nil =>
      simp only [List.isEmpty_nil, Bool.true_eq_false, if_false]
      try walk_at "vl"
      refine ⟨⟨by decide, by decide, by decide⟩, ?_⟩
      rw [if_neg (by decide)]
      exact mixed (P := fun x => Q (.v (.int x))) t0 t1 h0 fin
    | cons n0 rest =>
      simp only [List.isEmpty_cons, if_true]
      refine ⟨by simp, cell_int (by simp) fun c => ?_⟩
      try walk_at "vl"
      refine ⟨⟨by decide, by decide, by decide⟩, ?_⟩
      split
      · split
        · exact ⟨dm _, h0, fin _⟩
        · exact mixed (P := fun x => Q (.v (.int x))) t0 t1 h0 fin
      · exact mixed (P := fun x => Q (.v (.int x))) t0 t1 h0 fin
theorem cut_ints (ns : List Int) (lo hi : Option Int) : ∃ ms : List Int, VL.cutD (ns.map PyData.int) lo hi = ms.map PyData.int := by
  refine ⟨(ns.drop (HT.sIx (ns.map PyData.int).length 0 lo)).take (HT.sIx (ns.map PyData.int).length (ns.map PyData.int).length hi - HT.sIx (ns.map PyData.int).length 0 lo), ?_⟩
  unfold VL.cutD
  rw [List.map_take, List.map_drop]
theorem m_feedCut {ns : List Int} {Q : SV → Prop} (h : ∀ ms : List Int, Q (.own (ms.map .int))) : slM (.scr ns) none (some 63) Q := by
  obtain ⟨ms, e⟩ := cut_ints ns none (some 63)
  exact Or.inl ⟨ns.map .int, rfl, by rw [e]; exact h ms⟩
theorem sp_tap {ns : List Int} {Q : SV → Prop} (h : ∀ a ms, Q (.cell a ⟨true, ms⟩)) : m_law_tap [.scr ns] Q := by
  unfold m_law_tap t_law_tap
  try walk_at "vl"
  refine m_feedCut fun ms => ?_
  try walk_at "vl"
  exact ⟨ms, rfl, fun a => h a _⟩
theorem s_forL {L : Nat} {it : TVl} {g : TGt} {t : TVS} {E : VEnds} {ρ : VL.Env} : vForL L it g t E ρ = it ρ fun ds => ds.length ≤ L ∧ vLoop g t E ds ρ := rfl
theorem m_lcL {L : Nat} {it : TVl} {g : TGt} {c : TVb} {t : TV} {vs : List Nat} {ρ : VL.Env} {Q : SV → Prop} : vLcL L it g c t vs ρ Q = it ρ fun ds => ds.length ≤ L ∧ cLoop g c t (wipeV ρ vs) ds [] fun acc => Q (.own acc) := rfl
theorem pick_own {ds : List PyData} {i : Int} {Q : SV → Prop} (h0 : 0 ≤ i) (h1 : i < ds.length) (h : ∀ d ∈ ds, Q (.v d)) : fIx (.own ds) (.v (.int i)) Q := by
  obtain ⟨d, e, hd⟩ := pick (R := fun d => Q (.v d)) h0 h1 h
  exact ⟨i, rfl, Or.inl ⟨ds, d, rfl, e, hd⟩⟩
/-- a comprehension with a test whose things are drawn -/
theorem cl_rif {α : Type} {m : α → PyData} {P : α → Prop} {g : TGt} {c : TVb} {t : TV} {w : VL.Env} {R : List PyData → Prop} : ∀ (ds : List PyData) (vs : List α), (∀ d ∈ ds, ∀ (K1 : PyData → Prop) (K2 : Prop), (∀ v, P v → K1 (m v)) → K2 → g d w fun ρ' => c ρ' fun b => if b = true then t ρ' fun s => ∃ z, datasIn [s] = some [z] ∧ K1 z else K2) → (∀ v ∈ vs, P v) → vs.length + ds.length ≤ 1000 →
    (∀ vs' : List α, (∀ v ∈ vs', P v) → vs'.length ≤ vs.length + ds.length → R (vs'.map m)) → cLoop g c t w ds (vs.map m) R
  | [], vs, _, h1, h2, q => q vs h1 (by rw [List.length_nil]; omega)
  | d :: ds, vs, st, h1, h2, q => by
    rw [List.length_cons] at h2
    rw [cl_cons]
    refine st d (by simp) (fun z => (vs.map m).length < 100000 ∧ cLoop g c t w ds (vs.map m ++ [z]) R) _ (fun v ov => ⟨by rw [List.length_map]; omega, ?_⟩) ?_
    · have := cl_rif (m := m) ds (vs ++ [v]) (fun e he => st e (by simp [he])) (fun x hx => by
        rcases List.mem_append.mp hx with hx | hx
        · exact h1 x hx
        · rw [List.mem_singleton.mp hx]; exact ov) (by rw [List.length_append]; show vs.length + 1 + _ ≤ _; omega) fun vs' a b => q vs' a (by rw [List.length_append] at b; rw [List.length_cons]; have : [v].length = 1 := rfl; omega)
      rw [List.map_append] at this
      exact this
    · exact cl_rif (m := m) ds vs (fun e he => st e (by simp [he])) h1 (by omega) fun vs' a b => q vs' a (by rw [List.length_cons]; omega)
/-! ### what costs come to -/
theorem sumU_add {ts : List Ti} {a : Int} {n : Nat} : ∀ m : Nat, sumU ts a (n + m) = sumU ts a n + sumU ts (a + n) m
  | 0 => by show sumU ts a n = sumU ts a n + 0; omega
  | m + 1 => by
    show sumU ts a (n + m) + coinAt ts (a + ((n + m : Nat) : Int)) = sumU ts a n + (sumU ts (a + n) m + coinAt ts (a + n + m))
    rw [sumU_add m, show a + ((n + m : Nat) : Int) = a + n + m by omega]
    omega
theorem cst_add {ts : List Ti} (r : Ris ts) {a b c : Int} (h1 : a ≤ b) (h2 : b ≤ c) : cst a b ts + cst b c ts = cst a c ts := by
  obtain ⟨n, rfl⟩ : ∃ n : Nat, b = a + n := ⟨(b - a).toNat, by omega⟩
  obtain ⟨m, rfl⟩ : ∃ m : Nat, c = a + n + m := ⟨(c - (a + n)).toNat, by omega⟩
  have e := sum_cst r (a := a) (n + m)
  rw [show a + ((n + m : Nat) : Int) = a + n + m by omega] at e
  rw [← sum_cst r n, ← sum_cst r m, ← e, sumU_add]
theorem coin_char {n : Int} {p : Ti} : ∀ {ts : List Ti}, Ris ts → p ∈ ts → p.1 ≤ n → (∀ q ∈ ts, q.1 ≤ n → q.1 ≤ p.1) → coinAt ts n = p.2
  | [], _, hp, _, _ => nomatch hp
  | q :: ts, r, hp, h1, h2 => by
    have hr := List.pairwise_cons.mp r
    rcases List.mem_cons.mp hp with rfl | hp
    · rw [coin_head fun x hx => ?_, if_pos h1]
      have := hr.1 x hx
      by_cases e : x.1 ≤ n
      · have := h2 x (by simp [hx]) e; omega
      · omega
    · have ih := coin_char hr.2 hp h1 fun x hx => h2 x (by simp [hx])
      have := hr.1 p hp
      rw [← ih]
      unfold coinAt
      have ne : ts.filter (fun p => decide (p.1 ≤ n)) ≠ [] := fun e => by
        have := List.filter_eq_nil_iff.mp e p hp
        simp only [decide_eq_true_eq] at this
        omega
      rw [List.filter_cons, if_pos (by simp only [decide_eq_true_eq]; omega)]
      obtain ⟨y, ys, e⟩ := List.exists_cons_of_ne_nil ne
      rw [e, List.getLast?_cons_cons]
theorem coin_ex {n : Int} : ∀ ts : List Ti, (∀ q ∈ ts, n < q.1) ∨ ∃ p ∈ ts, p.1 ≤ n ∧ ∀ q ∈ ts, q.1 ≤ n → q.1 ≤ p.1
  | [] => .inl fun _ h => nomatch h
  | q :: ts => by
    rcases coin_ex (n := n) ts with h | ⟨p, hp, h1, h2⟩
    · by_cases e : q.1 ≤ n
      · refine .inr ⟨q, by simp, e, fun x hx hn => ?_⟩
        rcases List.mem_cons.mp hx with rfl | hx
        · exact Int.le_refl _
        · have := h x hx; omega
      · refine .inl fun x hx => ?_
        rcases List.mem_cons.mp hx with rfl | hx
        · omega
        · exact h x hx
    · by_cases e : q.1 ≤ n ∧ p.1 ≤ q.1
      · refine .inr ⟨q, by simp, e.1, fun x hx hn => ?_⟩
        rcases List.mem_cons.mp hx with rfl | hx
        · exact Int.le_refl _
        · have := h2 x hx hn; omega
      · refine .inr ⟨p, by simp [hp], h1, fun x hx hn => ?_⟩
        rcases List.mem_cons.mp hx with rfl | hx
        · omega
        · exact h2 x hx hn
/-- a tier more with the coins of the one ahead -/
theorem coin_more {ts ts' : List Ti} (r : Ris ts) (r' : Ris ts') {s : Int} (hm : ∀ q, q ∈ ts' ↔ q ∈ ts ∨ q = (s, coinAt ts s)) (hs : ∃ q ∈ ts, q.1 ≤ s) (n : Int) : coinAt ts' n = coinAt ts n := by
  have inn : ∀ q ∈ ts, q ∈ ts' := fun q hq => (hm q).mpr (.inl hq)
  have hS : (s, coinAt ts s) ∈ ts' := (hm _).mpr (.inr rfl)
  rcases coin_ex (n := n) ts with h | ⟨p, hp, h1, h2⟩
  · obtain ⟨q, hq, q1⟩ := hs
    have := h q hq
    rw [coin_none h, coin_none fun x hx => ?_]
    rcases (hm x).mp hx with hx | rfl
    · exact h x hx
    · show n < s; omega
  · rw [coin_char r hp h1 h2]
    by_cases e : s ≤ n ∧ p.1 < s
    · have e2 : coinAt ts s = p.2 := coin_char r hp (by omega) fun q hq hn => h2 q hq (by omega)
      rw [e2] at hS hm
      exact coin_char r' (p := (s, p.2)) hS e.1 fun q hq hn => by
        rcases (hm q).mp hq with hq | rfl
        · have := h2 q hq hn; show q.1 ≤ s; omega
        · exact Int.le_refl _
    · exact coin_char r' (inn p hp) h1 fun q hq hn => by
        rcases (hm q).mp hq with hq | rfl
        · exact h2 q hq hn
        · show s ≤ p.1; have hn : s ≤ n := hn; omega
theorem cst_more {ts ts' : List Ti} (r : Ris ts) (r' : Ris ts') (h : ∀ n, coinAt ts' n = coinAt ts n) {a b : Int} (hab : a ≤ b) : cst a b ts' = cst a b ts := by
  obtain ⟨n, rfl⟩ : ∃ n : Nat, b = a + n := ⟨(b - a).toNat, by omega⟩
  rw [← sum_cst r n, ← sum_cst r' n]
  clear hab
  induction n with
  | zero => rfl
  | succ n ih => show sumU ts' a n + coinAt ts' _ = sumU ts a n + coinAt ts _; rw [ih, h]
def dbl (p : Ti) : Ti := (p.1, p.2 * 2)
theorem cst_dbl {a b : Int} : ∀ ts : List Ti, cst a b (ts.map dbl) = cst a b ts * 2
  | [] => rfl
  | [p] => by show p.2 * 2 * mx0 (b - mxi p.1 a) = p.2 * mx0 (b - mxi p.1 a) * 2; rw [Int.mul_right_comm]
  | p :: q :: ts => by
    have ih := cst_dbl (a := a) (b := b) (q :: ts)
    show p.2 * 2 * mx0 (mni b q.1 - mxi p.1 a) + cst a b ((q :: ts).map dbl) = (p.2 * mx0 (mni b q.1 - mxi p.1 a) + cst a b (q :: ts)) * 2
    rw [ih, Int.add_mul, Int.mul_right_comm]
theorem ris_dbl {ts : List Ti} (r : Ris ts) : Ris (ts.map dbl) := List.pairwise_map.mpr (r.imp fun h => h)
/-! ### sorting -/
theorem dle_total (a b : PyData) : PySem.W.dataLe false id a b = true ∨ PySem.W.dataLe false id b a = true :=
  (PySem.W.sortLe_total (PyProof.Rows.listOrd PyProof.Rows.itemOrd) false fun b : PyData => PySem.W.keyToks b).total a b
theorem dle_trans (a b c : PyData) (h : PySem.W.dataLe false id a b = true) (h2 : PySem.W.dataLe false id b c = true) : PySem.W.dataLe false id a c = true :=
  (PySem.W.sortLe_total (PyProof.Rows.listOrd PyProof.Rows.itemOrd) false fun b : PyData => PySem.W.keyToks b).trans a b c h h2
def srt {α : Type} (f : α → PyData) (l : List α) : List α := l.mergeSort fun a b => PySem.W.dataLe false id (f a) (f b)
theorem srt_map {α : Type} (f : α → PyData) (l : List α) : Srts (l.map f) = (srt f l).map f := (List.map_mergeSort (f := f) (r := fun a b => PySem.W.dataLe false id (f a) (f b)) (s := PySem.W.dataLe false id) fun _ _ _ _ => rfl).symm
theorem srt_perm {α : Type} (f : α → PyData) (l : List α) : (srt f l).Perm l := List.mergeSort_perm _ _
theorem srt_mem {α : Type} {f : α → PyData} {l : List α} {a : α} : a ∈ srt f l ↔ a ∈ l := (srt_perm f l).mem_iff
theorem srt_pw {α : Type} (f : α → PyData) (l : List α) : (srt f l).Pairwise fun a b => PySem.W.dataLe false id (f a) (f b) = true :=
  List.pairwise_mergeSort (le := fun a b => PySem.W.dataLe false id (f a) (f b)) (fun a b c => dle_trans (f a) (f b) (f c)) (fun a b => by
    rcases dle_total (f a) (f b) with h | h
    · rw [h]; rfl
    · rw [h]; simp) l
/-- sorted, where different ones have different ranks -/
theorem srt_strict {α : Type} {f : α → PyData} {R : α → α → Prop} {l : List α} (hR : ∀ a b, R a b → PySem.W.dataLt (f a) (f b) = true) (tri : ∀ a ∈ l, ∀ b ∈ l, a ≠ b → R a b ∨ R b a) (nd : l.Nodup) : (srt f l).Pairwise R := by
  have h1 := srt_pw f l
  have h2 : (srt f l).Nodup := (srt_perm f l).nodup_iff.mpr nd
  refine (h1.and h2).imp_of_mem fun {a b} ha hb ⟨h, ne⟩ => ?_
  rcases tri a (srt_mem.mp ha) b (srt_mem.mp hb) ne with r | r
  · exact r
  · have := hR b a r
    have h' : (!PySem.W.dataLt (f b) (f a)) = true := h
    rw [this] at h'; cases h'
theorem lt_int {x y : Int} {r r' : List PyData} (h : x < y) : PySem.W.dataLt (.tuple (.int x :: r)) (.tuple (.int y :: r')) = true := by
  rw [PySem.W.dataLt_tuple, PySem.W.dataLt_all_no (x := .int x) (y := .int y) rfl (by simp only [PyData.eqv]; exact beq_false_of_ne (Int.ne_of_lt h)), PySem.W.dataLt_int]
  exact decide_eq_true h
theorem nd_inj {l : List Ti} (nd : (l.map (·.1)).Nodup) : ∀ {a b : Ti}, a ∈ l → b ∈ l → a.1 = b.1 → a = b := by
  intro a b ha hb e
  induction l with
  | nil => cases ha
  | cons c l ih =>
    rw [List.map_cons, List.nodup_cons] at nd
    rcases List.mem_cons.mp ha with rfl | ha'
    · rcases List.mem_cons.mp hb with rfl | hb'
      · rfl
      · exact absurd (List.mem_map.mpr ⟨b, hb', e.symm⟩) nd.1
    · rcases List.mem_cons.mp hb with rfl | hb'
      · exact absurd (List.mem_map.mpr ⟨a, ha', e⟩) nd.1
      · exact ih nd.2 ha' hb'
theorem srt_ris {l : List Ti} (nd : (l.map (·.1)).Nodup) : Ris (srt tD l) := by
  refine srt_strict (R := fun a b : Ti => a.1 < b.1) (fun a b h => lt_int h) (fun a ha b hb ne => ?_) ((List.pairwise_map.mp nd).imp fun h e => h (by rw [e]))
  by_cases e : a.1 = b.1
  · exact absurd (nd_inj nd ha hb e) ne
  · omega
/-! ### draws -/
theorem sp_great {a : Addr} {ns : List Int} {Q : SV → Prop} (h : ∀ r : Int, 0 ≤ r → r ≤ 100000 → Q (.v (.int r))) : m_law_great [.cell a ⟨true, ns⟩] Q := by
  rw [e_law_great]
  unfold b_law_great_1
  walk_at "wl"
  refine sp_pick (many := 9) (by decide) (by decide) fun r1' a1 b1 => ?_
  walk_at "wl"
  refine sp_pick (many := 999) (by decide) (by decide) fun r2 a2 b2 => ?_
  walk_at "wl"
  refine ⟨⟨by decide, by decide, by decide⟩, ?_⟩
  refine sp_pick (many := 999) (by decide) (by decide) fun r3 a3 b3 => ?_
  walk_at "wl"
  refine ⟨⟨by decide, by decide, by decide⟩, ?_⟩
  refine sp_pick (many := (10 : Int) ^ Int.toNat 5) (by decide) (by decide) fun r4 a4 b4 => ?_
  have e5 : (10 : Int) ^ Int.toNat 5 = 100000 := by decide
  rw [e5] at b4
  unfold b_law_great_0
  walk_at "wl"
  refine sp_pick (many := 4) (by decide) (by decide) fun r r0 r1 => ?_
  obtain ⟨d, e, hd⟩ := pick (ds := [PyData.int r1', PyData.int r2, PyData.int (10 ^ Int.toNat 5 - r3), PyData.int r4]) (R := fun d => Q (.v d)) r0 (by show r < 4; omega) fun d hd => by
    simp only [List.mem_cons, List.not_mem_nil, or_false] at hd
    rcases hd with rfl | rfl | rfl | rfl
    · exact h _ a1 (by omega)
    · exact h _ a2 (by omega)
    · rw [e5]; exact h _ (by omega) (by omega)
    · exact h _ a4 (by omega)
  exact ⟨_, rfl, .inl ⟨_, d, rfl, e, _, rfl, hd⟩⟩
theorem cl_rnd {α : Type} {m : α → PyData} {P : α → Prop} {g : TGt} {t : TV} {w : VL.Env} {R : List PyData → Prop} : ∀ (ds : List PyData) (vs : List α), (∀ d ∈ ds, ∀ K : PyData → Prop, (∀ v, P v → K (m v)) → g d w fun ρ' => t ρ' fun s => ∃ z, datasIn [s] = some [z] ∧ K z) → (∀ v ∈ vs, P v) → vs.length + ds.length ≤ 1000 →
    (∀ vs' : List α, (∀ v ∈ vs', P v) → vs'.length = vs.length + ds.length → R (vs'.map m)) → cLoop g (fun _ Q => Q true) t w ds (vs.map m) R
  | [], vs, _, h1, h2, q => q vs h1 (by rw [List.length_nil]; omega)
  | d :: ds, vs, st, h1, h2, q => by
    rw [List.length_cons] at h2
    rw [cl_cons]
    simp only [if_true]
    refine st d (by simp) (fun z => (vs.map m).length < 100000 ∧ cLoop g (fun _ Q => Q true) t w ds (vs.map m ++ [z]) R) fun v ov => ⟨by rw [List.length_map]; omega, ?_⟩
    have := cl_rnd (m := m) ds (vs ++ [v]) (fun e he => st e (by simp [he])) (fun x hx => by
      rcases List.mem_append.mp hx with hx | hx
      · exact h1 x hx
      · rw [List.mem_singleton.mp hx]; exact ov) (by rw [List.length_append]; show vs.length + 1 + _ ≤ _; omega) fun vs' a b => q vs' a (by rw [List.length_append] at b; rw [List.length_cons]; have : [v].length = 1 := rfl; omega)
    rw [List.map_append] at this
    exact this
inductive Each {α β : Type} (P : α → β → Prop) : List α → List β → Prop
  | nil : Each P [] []
  | cons {a : α} {b : β} {as : List α} {bs : List β} : P a b → Each P as bs → Each P (a :: as) (b :: bs)
theorem each_map {α β : Type} {P : α → β → Prop} {f : β → α} : ∀ {as : List α} {bs : List β}, Each P as bs → (∀ a b, P a b → f b = a) → bs.map f = as
  | _, _, .nil, _ => rfl
  | _, _, .cons h t, k => by rw [List.map_cons, k _ _ h, each_map t k]
theorem each_mem {α β : Type} {P : α → β → Prop} : ∀ {as : List α} {bs : List β}, Each P as bs → ∀ b ∈ bs, ∃ a ∈ as, P a b
  | _, _, .nil, _, hb => nomatch hb
  | _, _, .cons h t, b, hb => by
    rcases List.mem_cons.mp hb with rfl | hb
    · exact ⟨_, by simp, h⟩
    · obtain ⟨a, ha, p⟩ := each_mem t b hb
      exact ⟨a, by simp [ha], p⟩
/-- drawn one for one -/
theorem cl_each {α β : Type} {m : α → PyData} {n : β → PyData} {P : α → β → Prop} {g : TGt} {t : TV} {w : VL.Env} {R : List PyData → Prop} : ∀ (as : List α) (b0 : List β), (∀ a ∈ as, ∀ K : PyData → Prop, (∀ b, P a b → K (n b)) → g (m a) w fun ρ' => t ρ' fun s => ∃ z, datasIn [s] = some [z] ∧ K z) → b0.length + as.length ≤ 1000 →
    (∀ bs : List β, Each P as bs → R ((b0 ++ bs).map n)) → cLoop g (fun _ Q => Q true) t w (as.map m) (b0.map n) R
  | [], b0, _, _, q => by have := q [] .nil; rwa [List.append_nil] at this
  | a :: as, b0, st, hl, q => by
    rw [List.length_cons] at hl
    rw [List.map_cons, cl_cons]
    simp only [if_true]
    refine st a (by simp) (fun z => (b0.map n).length < 100000 ∧ cLoop g (fun _ Q => Q true) t w (as.map m) (b0.map n ++ [z]) R) fun b ob => ⟨by rw [List.length_map]; omega, ?_⟩
    have := cl_each (m := m) (n := n) (P := P) as (b0 ++ [b]) (fun e he => st e (by simp [he])) (by rw [List.length_append]; show b0.length + 1 + _ ≤ _; omega) fun bs a => by
      have := q (b :: bs) (.cons ob a)
      rwa [List.append_assoc]
    rw [List.map_append] at this
    exact this
theorem key_iff {kvs : List (L2.Key × PyData)} {k : L2.Key} : (gFind kvs k).isSome = true ↔ k ∈ kvs.map (·.1) := by
  rw [← gFind_any, List.any_eq_true, List.mem_map]
  constructor
  · rintro ⟨x, hx, e⟩
    exact ⟨x, hx, by simpa using e⟩
  · rintro ⟨x, hx, e⟩
    exact ⟨x, hx, by simpa using e⟩
theorem merge_keys : ∀ (kvs hs : List (L2.Key × PyData)), (hs.map (·.1)).Nodup → ((gMerge hs kvs).map (·.1)).Nodup ∧ (∀ k, k ∈ (gMerge hs kvs).map (·.1) ↔ k ∈ hs.map (·.1) ∨ k ∈ kvs.map (·.1)) ∧ (gMerge hs kvs).length ≤ hs.length + kvs.length
  | [], hs, nd => ⟨nd, fun k => by simp [gMerge], by simp [gMerge]⟩
  | (k, d) :: kvs, hs, nd => by
    have hk : ∀ j, j ∈ (gPut hs k d).map (·.1) ↔ j ∈ hs.map (·.1) ∨ j = k := fun j => by
      rw [gPut_keys]
      split
      · rename_i h
        refine ⟨.inl, fun h2 => h2.elim id fun e => ?_⟩
        subst e
        exact key_iff.mp h
      · simp
    have nd' : ((gPut hs k d).map (·.1)).Nodup := by
      rw [gPut_keys]
      split
      · exact nd
      · rename_i h
        refine List.nodup_append.mpr ⟨nd, by simp, fun a ha b hb => ?_⟩
        rw [List.mem_singleton] at hb
        subst hb
        intro e
        subst e
        exact h (key_iff.mpr ha)
    obtain ⟨a, b, c⟩ := merge_keys kvs (gPut hs k d) nd'
    refine ⟨a, fun j => ?_, ?_⟩
    · show j ∈ (gMerge (gPut hs k d) kvs).map (·.1) ↔ _
      rw [b j, hk j, List.map_cons, List.mem_cons, or_assoc]
    · show (gMerge (gPut hs k d) kvs).length ≤ _
      have := gPut_len hs k d
      rw [List.length_cons]
      omega
theorem ints_keys {rs : List Int} : ∀ l : List L2.Key, (∀ k ∈ l, ∃ r : Int, k = .inl r ∧ r ∈ rs) → ∃ ks : List Int, l = ks.map Sum.inl ∧ ∀ k ∈ ks, k ∈ rs
  | [], _ => ⟨[], rfl, fun _ h => nomatch h⟩
  | k :: l, h => by
    obtain ⟨r, rfl, hr⟩ := h k (by simp)
    obtain ⟨ks, e, hk⟩ := ints_keys l fun x hx => h x (by simp [hx])
    refine ⟨r :: ks, by rw [List.map_cons, e], fun x hx => ?_⟩
    rcases List.mem_cons.mp hx with rfl | hx
    · exact hr
    · exact hk x hx
theorem sp_tiers {a : Addr} {ns : List Int} {Q : SV → Prop} (h : ∀ ts, GTi ts → (∀ p ∈ ts, p.1 ≤ 200000 ∧ p.2 ≤ 1000000) → (∃ p ∈ ts, p.1 = 0) → Q (.v (tsD ts))) : m_law_tiers [.cell a ⟨true, ns⟩] Q := by
  rw [e_law_tiers]
  unfold b_law_tiers_1
  walk_at "wl"
  simp only [m_lcL]
  walk_at "wl"
  refine sp_pick (many := 4) (by decide) (by decide) fun n n0 n1 => ⟨_, rfl, by omega, by omega, by simp; omega, ?_⟩
  refine cl_rnd (m := fun r : Int => .tuple [.int r, .bool true]) (P := fun r => 1 ≤ r ∧ r ≤ 100001) _ [] (fun d hd K k => ?_) (fun _ hv => (nomatch hv)) (by simp; omega) fun rs hr lr => ?_
  · walk_at "wl"
    refine sp_great fun r r0 r1 => ?_
    walk_at "wl"
    exact k _ (by omega)
  · have lr : rs.length ≤ 3 := by simp at lr; omega
    refine ⟨_, rs.map fun r => (.inl r, .bool true), rfl, ?_, ?_⟩
    · rw [List.map_map]
      rfl
    obtain ⟨m1, m2, m3⟩ := merge_keys (rs.map fun r => ((.inl r : L2.Key), PyData.bool true)) [] (by simp)
    generalize gMerge [] (rs.map fun r => ((.inl r : L2.Key), PyData.bool true)) = kvs at m1 m2 m3 ⊢
    have all : ∀ k ∈ kvs.map (·.1), ∃ r : Int, k = .inl r ∧ r ∈ rs := fun k hk => by
      rcases (m2 k).mp hk with hk | hk
      · cases hk
      · rw [List.map_map] at hk
        obtain ⟨r, hr, rfl⟩ := List.mem_map.mp hk
        exact ⟨r, rfl, hr⟩
    obtain ⟨ks, ek, hks⟩ := ints_keys (kvs.map (·.1)) all
    have lk : ks.length ≤ 3 := by
      have := congrArg List.length ek
      rw [List.length_map, List.length_map] at this
      rw [List.length_map, List.length_nil] at m3
      omega
    have nk : ks.Nodup := by
      rw [ek] at m1
      exact (List.pairwise_map.mp m1).imp fun h e => h (by rw [e])
    refine ⟨odK kvs, kvs, ks, rfl, ?_, ek, by omega, fun ys py sy => ?_⟩
    · exact .inl rfl
    · have lt : ys.Pairwise (· < ·) := (sy.and (py.nodup_iff.mpr nk)).imp fun {a b} h => by have := h.1; have := h.2; omega
      have ly : ys.length ≤ 3 := by rw [py.length_eq]; exact lk
      have my : ∀ y ∈ ys, 1 ≤ y ∧ y ≤ 100001 := fun y hy => hr y (hks y (py.mem_iff.mp hy))
      clear py sy nk ek hks all m1 m2 m3 lk
      walk_at "wl"
      unfold b_law_tiers_0
      walk_at "wl"
      simp only [m_lcL]
      walk_at "wl"
      refine ⟨by rw [zl, List.length_map]; omega, _, rfl, by simp; omega, ?_⟩
      have go := cl_each (m := PyData.int) (n := tD) (P := fun (y : Int) (p : Ti) => p.1 = y ∧ 0 ≤ p.2 ∧ p.2 ≤ 1000000) (R := fun acc => Q (SV.v (PyData.tuple acc))) (g := vgName 2)
        (t := vTup (vCons (vVar 2) (vCons (vBin fIx (vLst (vCons (vC (PyData.int 0)) (vCons (vC (PyData.int 1)) (vCons (vC (PyData.int 3)) (vCons (vBin fPow (vC (PyData.int 10)) (vC (PyData.int 6))) vNil))))) (vCall 2 m_law_pick [] (vCons (vVar 0) (vCons (vC (PyData.int 4)) vNil)))) vNil)))
        (w := [SV.cell a { tap := true, ns := ns }, SV.v (PyData.list (List.map PyData.int ys)), SV.un, SV.un]) (0 :: ys) []
      refine go (fun y hy K k => ?_) (by simp; omega) fun ts ht => ?_
      · walk_at "wl"
        refine ⟨⟨by decide, by decide, by decide⟩, sp_pick (many := 4) (by decide) (by decide) fun r r0 r1 => pick_own r0 (by show r < 4; omega) fun d hd => ?_⟩
        obtain ⟨e, rfl, e0, e1⟩ : ∃ e : Int, d = .int e ∧ 0 ≤ e ∧ e ≤ 1000000 := by
          simp only [List.mem_cons, List.not_mem_nil, or_false] at hd
          rcases hd with rfl | rfl | rfl | rfl <;> exact ⟨_, rfl, by decide, by decide⟩
        walk_at "wl"
        exact k (y, e) ⟨rfl, e0, e1⟩
      · have ef : ts.map (·.1) = 0 :: ys := each_map ht fun a b h => h.1
        have lts : ts.length = ys.length + 1 := by have := congrArg List.length ef; rw [List.length_map, List.length_cons] at this; exact this
        have pw : (ts.map (·.1)).Pairwise (· < ·) := by rw [ef]; exact List.pairwise_cons.mpr ⟨fun y hy => by have := my y hy; omega, lt⟩
        have bd : ∀ p ∈ ts, 0 ≤ p.1 ∧ p.1 ≤ 200000 ∧ 0 ≤ p.2 ∧ p.2 ≤ 1000000 := fun p hp => by
          have h1 : p.1 ∈ ts.map (·.1) := List.mem_map.mpr ⟨p, hp, rfl⟩
          rw [ef] at h1
          obtain ⟨y, _, e, h2, h3⟩ := each_mem ht p hp
          rcases List.mem_cons.mp h1 with e0 | h1
          · omega
          · have := my _ h1; omega
        refine h ts ⟨List.pairwise_map.mp pw, fun p hp => by have := bd p hp; omega, by omega⟩ (fun p hp => by have := bd p hp; omega) ?_
        have h0 : (0 : Int) ∈ ts.map (·.1) := by rw [ef]; simp
        obtain ⟨p, hp, e⟩ := List.mem_map.mp h0
        exact ⟨p, hp, e⟩
/-! ### a tier more -/
theorem ix_T {ds : List PyData} {i : Int} {Q : SV → Prop} {d : PyData} (e : atI ds i = some d) (h : Q (.v d)) : fIx (.v (.tuple ds)) (.v (.int i)) Q := ⟨i, rfl, .inl ⟨ds, d, rfl, e, h⟩⟩
theorem at_map {ts : List Ti} {k : Nat} (hk : k < ts.length) : ∃ p ∈ ts, atI (ts.map tD) (k : Int) = some (tD p) := ⟨ts[k], List.getElem_mem hk, atI_nat (by rw [List.getElem?_map, List.getElem?_eq_getElem hk]; rfl)⟩
theorem sp_costI {ts : List Ti} (g : GTi ts) {many before : Int} (m0 : 0 ≤ many) (hm : many ≤ 10000000) (b0 : 0 ≤ before) (hb : before ≤ 10000000) {Q : SV → Prop} (h : Q (.v (.int (cst before (before + many) ts)))) : m_cost [.v (tsD ts), .v (.int many), .v (.int before)] Q := by
  obtain ⟨M, rfl⟩ : ∃ M : Nat, many = M := ⟨many.toNat, by omega⟩
  obtain ⟨B, rfl⟩ : ∃ B : Nat, before = B := ⟨before.toNat, by omega⟩
  exact sp_cost g (by omega) (by omega) h
theorem any_start {ts : List Ti} {s : Int} : (ts.map fun p => PyData.int p.1).any (PyData.eqv · (.int s)) = ts.any fun p => decide (p.1 = s) := by
  rw [List.any_map]
  congr 1
theorem sort_tiers {ts : List Ti} {ds : List PyData} {Q : SV → Prop} (hd : ds = ts.map tD) (nd : (ts.map (·.1)).Nodup) (hl : ts.length ≤ 1000) (h : Ris (srt tD ts) → Q (.own ((srt tD ts).map tD))) : fSortT [.v (.tuple ds)] Q := by
  subst hd
  refine ⟨_, _, rfl, rfl, ?_, .inl ?_, ?_, by rw [List.length_map]; omega, ?_⟩
  · intro d hd e he
    obtain ⟨p, _, rfl⟩ := List.mem_map.mp hd
    obtain ⟨q, _, rfl⟩ := List.mem_map.mp he
    rfl
  · intro d hd
    obtain ⟨p, _, rfl⟩ := List.mem_map.mp hd
    exact ⟨_, _, rfl⟩
  · intro d hd
    obtain ⟨p, _, rfl⟩ := List.mem_map.mp hd
    simp [tD, PyData.depth, PyData.depthAll]
  · rw [srt_map]
    exact h (srt_ris nd)
theorem lay_starts : ∀ ts : List Ti, PyData.canLayAll0 (ts.map fun p => PyData.int p.1) = true
  | [] => rfl
  | p :: l => by rw [List.map_cons]; unfold PyData.canLayAll0; rw [lay_starts l]; rfl
theorem sp_finer {a : Addr} {ns : List Int} {ts : List Ti} (g : GTi ts) (bd : ∀ p ∈ ts, p.1 ≤ 200000 ∧ p.2 ≤ 1000000) (z : ∃ p ∈ ts, p.1 = 0) {Q : SV → Prop} (h : ∀ us, GTi us → (∀ n, coinAt us n = coinAt ts n) → Q (.v (tsD us))) : m_law_finer [.cell a ⟨true, ns⟩, .v (tsD ts)] Q := by
  have l0 : 0 < ts.length := by obtain ⟨p, hp, _⟩ := z; cases ts with | nil => cases hp | cons _ _ => simp
  rw [e_law_finer]
  unfold b_law_finer_4
  simp only [tsD]
  walk_at "wl"
  rw [List.length_map]
  refine sp_pick (many := (ts.length : Int)) (by omega) (by have := g.ln; omega) fun k k0 k1 => ?_
  obtain ⟨k, rfl⟩ : ∃ K : Nat, k = K := ⟨k.toNat, by omega⟩
  unfold b_law_finer_3
  walk_at "wl"
  obtain ⟨p, hp, ep⟩ := at_map (ts := ts) (k := k) (by omega)
  refine ⟨_, ep, ?_⟩
  have np := g.nn p hp
  have bp := bd p hp
  rw [show tD p = .tuple [.int p.1, .int p.2] from rfl]
  walk_at "wl"
  refine at0 ?_
  walk_at "wl"
  refine sp_pick (many := 50) (by decide) (by decide) fun x x0 x1 => ?_
  walk_at "wl"
  generalize hs : p.1 + 1 + x = s
  unfold b_law_finer_2
  walk_at "wl"
  refine items_tup ?_
  refine cloop_all tD (fun p => .int p.1) (fun q hq K1 k1 => ?_) (by have := g.ln; omega) ?_
  · rw [show tD q = .tuple [.int q.1, .int q.2] from rfl]
    walk_at "wl"
    exact at0 k1
  · have same : Q (.v (.tuple (ts.map tD))) := h ts g fun _ => rfl
    have lay := lay_starts ts
    refine .inr ⟨.int s, _, rfl, rfl, rfl, by simp [PyData.depth], lay, _, rfl, ?_⟩
    simp only [Bool.false_eq_true, if_false]
    rw [any_start]
    by_cases ha : (ts.any fun p => decide (p.1 = s)) = true
    · exact ify ha same
    · refine ifn (Bool.not_eq_true _ |>.mp ha) ?_
      rw [List.length_map]
      by_cases h4 : ts.length = 4
      · exact ify (by rw [h4]; rfl) same
      · refine ifn (beq_false_of_ne (by omega)) ?_
        have new : ∀ q ∈ ts, q.1 ≠ s := fun q hq e => ha (List.any_eq_true.mpr ⟨q, hq, by simp [e]⟩)
        unfold b_law_finer_1
        walk_at "wl"
        refine items_tup ?_
        refine cloop_if tD (fun q => decide (q.1 ≤ s)) tD (fun q hq K1 K2 k1 k2 => ?_) (by have := g.ln; omega) ?_
        · rw [show tD q = .tuple [.int q.1, .int q.2] from rfl]
          walk_at "wl"
          refine at0 ?_
          walk_at "wl"
          by_cases e : q.1 ≤ s
          · exact ifp e (k1 (decide_eq_true e))
          · exact ifq e (k2 (decide_eq_false e))
        · have hc : coinAt ts s = match (ts.filter fun p => decide (p.1 ≤ s)).getLast? with
            | some p => p.2
            | none => 0 := rfl
          have ne : (ts.filter fun p => decide (p.1 ≤ s)) ≠ [] := fun e => by
            have := List.filter_eq_nil_iff.mp e p hp
            simp only [decide_eq_true_eq] at this
            omega
          have nn : ∀ q ∈ ts.filter (fun p => decide (p.1 ≤ s)), q ∈ ts := fun q hq => (List.mem_filter.mp hq).1
          generalize ts.filter (fun p => decide (p.1 ≤ s)) = fs at hc ne nn ⊢
          rcases List.eq_nil_or_concat fs with rfl | ⟨L, b, rfl⟩
          · exact absurd rfl ne
          · rw [List.concat_eq_append] at nn hc ⊢
            rw [List.getLast?_concat] at hc
            have nb := g.nn b (nn b (by simp))
            unfold b_law_finer_0
            rw [List.map_append]
            walk_at "wl"
            refine ix_last ?_
            rw [show tD b = .tuple [.int b.1, .int b.2] from rfl]
            walk_at "wl"
            refine at1 ?_
            walk_at "wl"
            have nd : ((ts ++ [(s, b.2)]).map (·.1)).Nodup := by
              rw [List.map_append]
              refine List.nodup_append.mpr ⟨List.pairwise_map.mpr (g.ri.imp fun h => Int.ne_of_lt h), by simp, fun x hx y hy => ?_⟩
              obtain ⟨q, hq, rfl⟩ := List.mem_map.mp hx
              have : y = s := by simpa using hy
              rw [this]
              exact new q hq
            refine ⟨by rw [zl, List.length_map]; have := g.ln; omega, ?_⟩
            refine sort_tiers (ts := ts ++ [(s, b.2)]) (by rw [List.map_append]; rfl) nd (by rw [List.length_append]; have := g.ln; simp; omega) fun rs => ?_
            have pm := srt_perm tD (ts ++ [(s, b.2)])
            walk_at "wl"
            refine h (srt tD (ts ++ [(s, b.2)])) ⟨rs, fun q hq => ?_, ?_⟩ fun n => coin_more g.ri rs (s := s) (fun q => ?_) ⟨p, hp, by omega⟩ n
            · rcases List.mem_append.mp (pm.mem_iff.mp hq) with hq | hq
              · exact g.nn q hq
              · rw [List.mem_singleton.mp hq]
                show 0 ≤ s ∧ s ≤ 1000000 ∧ 0 ≤ b.2 ∧ b.2 ≤ 10000000
                omega
            · rw [pm.length_eq, List.length_append]
              have := g.ln
              simp
              omega
            · rw [pm.mem_iff, List.mem_append, List.mem_singleton, hc]
theorem mul_bd {c m : Int} (c0 : 0 ≤ c) (c1 : c ≤ 10000000) (m0 : 0 ≤ m) (m1 : m ≤ 10000000) : 0 ≤ c * m ∧ c * m ≤ 100000000000000 :=
  ⟨Int.mul_nonneg c0 m0, Int.le_trans (Int.mul_le_mul c1 m1 m0 (by decide)) (by decide)⟩
theorem cst_bd {a b : Int} (hab : a ≤ b) (h : b - a ≤ 10000000) : ∀ ts : List Ti, (∀ p ∈ ts, 0 ≤ p.1 ∧ p.1 ≤ 1000000 ∧ 0 ≤ p.2 ∧ p.2 ≤ 10000000) → 0 ≤ cst a b ts ∧ cst a b ts ≤ ts.length * 100000000000000
  | [], _ => ⟨Int.le_refl _, by simp [cst]⟩
  | [p], hp => by
    obtain ⟨n0, n1, n2, n3⟩ := hp p (by simp)
    have := mul_bd n2 n3 (m := mx0 (b - mxi p.1 a)) (by unfold mx0 mxi; split <;> split <;> omega) (by unfold mx0 mxi; split <;> split <;> omega)
    unfold cst
    simp only [List.length_cons, List.length_nil]
    omega
  | p :: q :: ts, hp => by
    obtain ⟨n0, n1, n2, n3⟩ := hp p (by simp)
    have := mul_bd n2 n3 (m := mx0 (mni b q.1 - mxi p.1 a)) (by unfold mx0 mxi mni; split <;> split <;> split <;> omega) (by unfold mx0 mxi mni; split <;> split <;> split <;> omega)
    have ih := cst_bd hab h (q :: ts) fun x hx => hp x (by simp [hx])
    unfold cst
    simp only [List.length_cons] at *
    omega
theorem gti_dbl {ts : List Ti} (g : GTi ts) (bd : ∀ p ∈ ts, p.1 ≤ 200000 ∧ p.2 ≤ 1000000) : GTi (ts.map dbl) := ⟨ris_dbl g.ri, fun q hq => by
  obtain ⟨p, hp, rfl⟩ := List.mem_map.mp hq
  have h1 := g.nn p hp
  have h2 := bd p hp
  show 0 ≤ p.1 ∧ p.1 ≤ 1000000 ∧ 0 ≤ p.2 * 2 ∧ p.2 * 2 ≤ 10000000
  omega, by rw [List.length_map]; exact g.ln⟩
theorem sp_parted {a : Addr} {ns : List Int} {ts : List Ti} (g : GTi ts) (bd : ∀ p ∈ ts, p.1 ≤ 200000 ∧ p.2 ≤ 1000000) (z : ∃ p ∈ ts, p.1 = 0) {Q : SV → Prop} (h : Q (.v (.bool true))) : m_law_parted_right [.cell a ⟨true, ns⟩, .v (tsD ts)] Q := by
  rw [e_law_parted_right]
  unfold b_law_parted_right_8
  walk_at "wl"
  refine sp_great fun m m0 m1 => ?_
  walk_at "wl"
  refine sp_great fun b b0 b1 => ?_
  unfold b_law_parted_right_7
  walk_at "wl"
  refine sp_pick (many := m + 1) (by omega) (by omega) fun n n0 n1 => ?_
  unfold b_law_parted_right_6
  walk_at "wl"
  refine sp_costI g m0 (by omega) b0 (by omega) ?_
  unfold b_law_parted_right_5
  walk_at "wl"
  refine sp_costI g n0 (by omega) b0 (by omega) ?_
  walk_at "wl"
  refine sp_costI g (by omega) (by omega) (by omega) (by omega) ?_
  walk_at "wl"
  have e1 := cst_add g.ri (a := b) (b := b + n) (c := b + m) (by omega) (by omega)
  rw [show b + n + (m - n) = b + m by omega, e1]
  have sq : ∀ x : Int, ¬ (x == x) = false := fun x => by simp
  refine ifq (sq _) ?_
  unfold b_law_parted_right_4
  walk_at "wl"
  refine sp_finer g bd z fun us gu eu => ?_
  walk_at "wl"
  refine sp_costI gu m0 (by omega) b0 (by omega) ?_
  rw [cst_more g.ri gu.ri eu (by omega)]
  walk_at "wl"
  refine ifq (sq _) ?_
  unfold b_law_parted_right_3
  walk_at "wl"
  refine sp_costI g (by omega) (by omega) b0 (by omega) ?_
  rw [show b + (0 : Int) = b by omega, cst_void]
  walk_at "wl"
  refine ifq (sq _) ?_
  unfold b_law_parted_right_2
  simp only [tsD]
  walk_at "wl"
  refine items_tup ?_
  refine cloop_all tD (tD ∘ dbl) (fun q hq K1 k1 => ?_) (by have := g.ln; omega) ?_
  · rw [show tD q = .tuple [.int q.1, .int q.2] from rfl]
    walk_at "wl"
    have h1 := g.nn q hq
    refine ⟨mulL (by omega) (by omega), _, rfl, by simp, k1⟩
  · rw [← List.map_map]
    unfold b_law_parted_right_1
    walk_at "wl"
    refine sp_costI (gti_dbl g bd) m0 (by omega) b0 (by omega) ?_
    rw [cst_dbl]
    have cb := cst_bd (a := b) (b := b + m) (by omega) (by omega) ts g.nn
    have gl := g.ln
    refine ⟨mulL (by omega) (by omega), ?_⟩
    walk_at "wl"
    refine ifq (sq _) ?_
    unfold b_law_parted_right_0
    walk_at "wl"
    refine sp_costI g (by omega) (by omega) (Int.le_refl 0) (by omega) ?_
    walk_at "wl"
    refine sp_costI g b0 (by omega) (Int.le_refl 0) (by omega) ?_
    walk_at "wl"
    have e2 := cst_add g.ri (a := 0) (b := b) (c := b + m) b0 (by omega)
    rw [Int.zero_add, Int.zero_add, e2]
    simpa using h
/-! ### notes -/
def ntD (p : Ti) : PyData := .tuple [.int p.1, .str "steps", .int p.2]
def nsD (N : List Ti) : PyData := .tuple (N.map ntD)
structure NOk (d : Int) (N : List Ti) : Prop where
  ri : Ris N
  bd : ∀ p ∈ N, 0 ≤ p.1 ∧ p.1 < d ∧ 0 ≤ p.2 ∧ p.2 ≤ 100000
  ln : N.length ≤ d
theorem eq_day {neg : Bool} {p : Ti} {d : Int} {Q : SV → Prop} (h : Q (.v (.bool (if neg = true then !decide (p.1 = d) else decide (p.1 = d))))) : fEq neg (.v (.tuple (VL.cutD [.int p.1, .str "steps", .int p.2] none (some 2)))) (.v (.tuple [.int d, .str "steps"])) Q := by
  have e : VL.cutD [PyData.int p.1, .str "steps", .int p.2] none (some 2) = [.int p.1, .str "steps"] := by
    rw [show (some (2 : Int)) = some ((2 : Nat) : Int) from rfl, cut_lo]
    rfl
  have sh : ∀ i : Int, SeqAt.shaped (.tuple [.int i, .str "steps"]) = true := fun i => by
    unfold SeqAt.shaped
    have : PyData.canLay0 (.tuple [.int i, .str "steps"]) = true := by
      simp only [PyData.canLay0, PyData.canLayAll0, Bool.and_true]
      decide +kernel
    rw [this]
    simp [PyData.depth, PyData.depthAll]
  rw [e]
  refine ⟨_, _, rfl, rfl, sh _, sh _, ?_⟩
  have : PyData.eqv (.tuple [.int p.1, .str "steps"]) (.tuple [.int d, .str "steps"]) = decide (p.1 = d) := by
    simp only [PyData.eqv, PyData.eqvAll, Bool.and_true]
    by_cases h : p.1 = d <;> simp [h]
  rw [this]
  exact h
theorem srt_self {N : List Ti} (r : Ris N) : Srts (N.map ntD) = N.map ntD := by
  refine List.mergeSort_of_pairwise (List.pairwise_map.mpr (r.imp fun {a b} h => ?_))
  show (!PySem.W.dataLt (ntD b) (ntD a)) = true
  rcases dle_total (ntD a) (ntD b) with h1 | h1
  · exact h1
  · exfalso
    have h2 : (!PySem.W.dataLt (ntD a) (ntD b)) = true := h1
    rw [show PySem.W.dataLt (ntD a) (ntD b) = true from lt_int h] at h2
    cases h2
theorem sort_notes {N : List Ti} {ds : List PyData} {Q : SV → Prop} (hd : ds = N.map ntD) (r : Ris N) (h : Q (.own (N.map ntD))) : fSorted [.own ds] Q := by
  subst hd
  refine ⟨_, _, rfl, rfl, ?_, .inl ?_, ?_, ?_⟩
  · intro d hd e he
    obtain ⟨p, _, rfl⟩ := List.mem_map.mp hd
    obtain ⟨q, _, rfl⟩ := List.mem_map.mp he
    rfl
  · intro d hd
    obtain ⟨p, _, rfl⟩ := List.mem_map.mp hd
    exact ⟨_, _, rfl⟩
  · intro d hd
    obtain ⟨p, _, rfl⟩ := List.mem_map.mp hd
    simp [ntD, PyData.depth, PyData.depthAll]
  · rw [srt_self r]
    exact h
theorem sp_noted {N : List Ti} {d u : Int} (ok : NOk d N) (d1 : d ≤ 100) (d0 : 0 ≤ d) (u0 : 0 ≤ u) (u1 : u ≤ 100000) {Q : SV → Prop} (h : Q (.v (nsD (if u = 0 then N else N ++ [(d, u)])))) : m_noted [.v (nsD N), .v (.int d), .v (.str "steps"), .v (.int u)] Q := by
  have ln := ok.ln
  rw [e_noted]
  unfold b_noted_3
  simp only [nsD]
  walk_at "wl"
  refine items_tup ?_
  refine cloop_if ntD (fun p => !decide (p.1 = d)) ntD (fun p hp K1 K2 k1 k2 => ?_) (by omega) ?_
  · rw [show ntD p = .tuple [.int p.1, .str "steps", .int p.2] from rfl]
    walk_at "wl"
    refine eq_day (p := p) ⟨_, rfl, ?_⟩
    by_cases e : p.1 = d
    · exact ifn (by simp [e]) (k2 (by simp [e]))
    · exact ify (by simp [e]) (k1 (by simp [e]))
  · have e : (N.filter fun p => !decide (p.1 = d)) = N := List.filter_eq_self.mpr fun p hp => by have := ok.bd p hp; simp; omega
    rw [e]
    unfold b_noted_2
    walk_at "wl"
    refine items_tup ?_
    refine cloop_if ntD (fun p => decide (p.1 = d)) (fun p => .int p.2) (fun p hp K1 K2 k1 k2 => ?_) (by omega) ?_
    · rw [show ntD p = .tuple [.int p.1, .str "steps", .int p.2] from rfl]
      walk_at "wl"
      refine eq_day (p := p) ⟨_, rfl, ?_⟩
      by_cases e : p.1 = d
      · exact ify (by simp [e]) (at2 (k1 (by simp [e])))
      · exact ifn (by simp [e]) (k2 (by simp [e]))
    · have e2 : (N.filter fun p => decide (p.1 = d)) = [] := List.filter_eq_nil_iff.mpr fun p hp => by have := ok.bd p hp; simp; omega
      rw [e2]
      refine ⟨_, [], rfl, rfl, ?_⟩
      walk_at "wl"
      rw [show u + ([] : List Int).sum = u by simp]
      unfold b_noted_1
      walk_at "wl"
      by_cases hu : u = 0
      · rw [if_pos hu] at h
        exact ify (by simp [hu]) h
      · rw [if_neg hu] at h
        refine ifn (by simp [hu]) ?_
        unfold b_noted_0
        walk_at "wl"
        have rN : Ris (N ++ [(d, u)]) := List.pairwise_append.mpr ⟨ok.ri, List.pairwise_singleton _ _, fun p hp q hq => by
          rw [List.mem_singleton.mp hq]
          exact (ok.bd p hp).2.1⟩
        refine ⟨by rw [List.length_map, zl]; omega, ?_⟩
        refine sort_notes (N := N ++ [(d, u)]) (by rw [List.map_append]; rfl) rN ?_
        walk_at "wl"
        exact h
theorem noted_ok {N : List Ti} {d u : Int} (ok : NOk d N) (d0 : 0 ≤ d) (u0 : 0 ≤ u) (u1 : u ≤ 100000) : NOk (d + 1) (if u = 0 then N else N ++ [(d, u)]) := by
  have b1 : ∀ p ∈ N, 0 ≤ p.1 ∧ p.1 < d + 1 ∧ 0 ≤ p.2 ∧ p.2 ≤ 100000 := fun p hp => by have := ok.bd p hp; omega
  split
  · exact ⟨ok.ri, b1, by have := ok.ln; omega⟩
  · refine ⟨List.pairwise_append.mpr ⟨ok.ri, List.pairwise_singleton _ _, fun p hp q hq => ?_⟩, fun p hp => ?_, by rw [List.length_append]; have := ok.ln; simp; omega⟩
    · rw [List.mem_singleton.mp hq]
      exact (ok.bd p hp).2.1
    · rcases List.mem_append.mp hp with hp | hp
      · exact b1 p hp
      · rw [List.mem_singleton.mp hp]
        show 0 ≤ d ∧ d < d + 1 ∧ 0 ≤ u ∧ u ≤ 100000
        omega
/-- the units of those that are so -/
def tot (f : Int → Bool) (N : List Ti) : Int := ((N.filter fun p => f p.1).map (·.2)).sum
theorem sp_units_on {N : List Ti} (ln : N.length ≤ 100) {d : Int} {Q : SV → Prop} (h : Q (.v (.int (tot (fun e => decide (e = d)) N)))) : m_units_on [.v (nsD N), .v (.int d), .v (.str "steps")] Q := by
  unfold m_units_on t_units_on
  simp only [nsD]
  walk_at "wl"
  refine items_tup ?_
  refine cloop_if ntD (fun p : Ti => decide (p.1 = d)) (fun p : Ti => .int p.2) (fun p hp K1 K2 k1 k2 => ?_) (by omega) ?_
  · rw [show ntD p = .tuple [.int p.1, .str "steps", .int p.2] from rfl]
    walk_at "wl"
    refine eq_day (p := p) ⟨_, rfl, ?_⟩
    by_cases e : p.1 = d
    · exact ify (by simp [e]) (at2 (k1 (by simp [e])))
    · exact ifn (by simp [e]) (k2 (by simp [e]))
  · refine ⟨_, ((N.filter fun p : Ti => decide (p.1 = d)).map fun p : Ti => p.2), rfl, by rw [List.map_map]; rfl, _, rfl, h⟩
theorem sp_period {d L : Int} (hL : 0 < L) (h1 : L < 100) {Q : SV → Prop} (h : Q (.v (.int (d / L)))) : m_period_of [.v (.int d), .v (.tuple [.int 1, .int L])] Q := by
  unfold m_period_of t_period_of
  walk_at "wl"
  refine at1 ?_
  walk_at "wl"
  exact ⟨divOk hL (by omega), h⟩
/-- earlier, of the same period -/
def pre (L d : Int) (e : Int) : Bool := decide (e < d) && decide (e / L = d / L)
theorem sp_ahead {N : List Ti} (ln : N.length ≤ 100) {d L : Int} (hL : 0 < L) (h1 : L < 100) {Q : SV → Prop} (h : Q (.v (.int (tot (pre L d) N)))) : m_units_ahead [.v (nsD N), .v (.int d), .v (.str "steps"), .v (.tuple [.int 1, .int L])] Q := by
  rw [e_units_ahead]
  unfold b_units_ahead_1
  simp only [nsD]
  walk_at "wl"
  refine sp_period hL h1 ?_
  unfold b_units_ahead_0
  walk_at "wl"
  refine items_tup ?_
  refine cloop_if ntD (fun p : Ti => pre L d p.1) (fun p : Ti => .int p.2) (fun p hp K1 K2 k1 k2 => ?_) (by omega) ?_
  · rw [show ntD p = .tuple [.int p.1, .str "steps", .int p.2] from rfl]
    walk_at "wl"
    refine ify (by simp) ?_
    by_cases e : p.1 < d
    · refine ifp e ?_
      refine sp_period hL h1 ?_
      walk_at "wl"
      by_cases e2 : p.1 / L = d / L
      · exact ify (by simp [e2]) (k1 (by simp [pre, e, e2]))
      · exact ifn (by simp [e2]) (k2 (by simp [pre, e2]))
    · exact ifq e (k2 (by simp [pre, e]))
  · refine ⟨_, ((N.filter fun p : Ti => pre L d p.1).map fun p : Ti => p.2), rfl, by rw [List.map_map]; rfl, _, rfl, h⟩
theorem tot_bd {N : List Ti} {d : Int} (ok : NOk d N) (d1 : d ≤ 10) (f : Int → Bool) : 0 ≤ tot f N ∧ tot f N ≤ 1000000 := by
  have : ∀ M : List Ti, (∀ p ∈ M, 0 ≤ p.2 ∧ p.2 ≤ 100000) → 0 ≤ (M.map fun p : Ti => p.2).sum ∧ (M.map fun p : Ti => p.2).sum ≤ M.length * 100000 := by
    intro M
    induction M with
    | nil => intro _; simp
    | cons p M ih =>
      intro h
      have h1 := h p (by simp)
      have h2 := ih fun q hq => h q (by simp [hq])
      rw [List.map_cons, List.sum_cons, List.length_cons]
      omega
  have h := this (N.filter fun p => f p.1) fun p hp => by have := ok.bd p (List.mem_filter.mp hp).1; omega
  have l1 : (N.filter fun p => f p.1).length ≤ N.length := List.length_filter_le _ _
  have l2 := ok.ln
  have : tot f N = ((N.filter fun p => f p.1).map fun p : Ti => p.2).sum := rfl
  omega
theorem tot_one {N : List Ti} (r : Ris N) {p : Ti} (hp : p ∈ N) : tot (fun e => decide (e = p.1)) N = p.2 := by
  unfold tot
  induction N with
  | nil => cases hp
  | cons q N ih =>
    have hr := List.pairwise_cons.mp r
    rw [List.filter_cons]
    rcases List.mem_cons.mp hp with rfl | hp
    · rw [if_pos (by simp), List.filter_eq_nil_iff.mpr fun x hx => by have := hr.1 x hx; simp; omega]
      simp
    · have := hr.1 p hp
      rw [if_neg (by simp; omega)]
      exact ih hr.2 hp
theorem filt_one {N : List Ti} (r : Ris N) {p : Ti} (hp : p ∈ N) : (N.filter fun q => decide (q.1 = p.1)) = [p] := by
  induction N with
  | nil => cases hp
  | cons q N ih =>
    have hr := List.pairwise_cons.mp r
    rw [List.filter_cons]
    rcases List.mem_cons.mp hp with rfl | hp
    · rw [if_pos (by simp), List.filter_eq_nil_iff.mpr fun x hx => by have := hr.1 x hx; simp; omega]
    · have := hr.1 p hp
      rw [if_neg (by simp; omega)]
      exact ih hr.2 hp
section
variable {N : List Ti} {ts : List Ti} {L : Int} {Q : SV → Prop}
def prD (ts : List Ti) : PyData := .tuple [.tuple [.str "steps", tsD ts]]
def caD (L : Int) : PyData := .tuple [.int 1, .int L]
theorem sp_tiers_of (h : Q (.v (tsD ts))) : m_tiers_of [.v (prD ts), .v (.str "steps")] Q := by
  unfold m_tiers_of t_tiers_of prD
  walk_at "wl"
  refine ⟨_, [(Sum.inr (Str.ofString "steps"), tsD ts)], rfl, rfl, by simp, ?_⟩
  refine lk_K (k := .inr (Str.ofString "steps")) (kvs := [(Sum.inr (Str.ofString "steps"), tsD ts)]) (by first | exact rfl | exact .inl rfl | exact ⟨rfl⟩) rfl ?_
  rw [show gFind [((Sum.inr (Str.ofString "steps") : L2.Key), tsD ts)] (Sum.inr (Str.ofString "steps")) = some (tsD ts) by simp [gFind]]
  exact h
/-- the coins of a note -/
def cnt (ts : List Ti) (L : Int) (N : List Ti) (p : Ti) : Int := cst (tot (pre L p.1) N) (tot (pre L p.1) N + p.2) ts
theorem sp_coins (g : GTi ts) {d : Int} (ok : NOk d N) (d1 : d ≤ 10) (hL : 0 < L) (h1 : L < 100) {p : Ti} (hp : p ∈ N) (h : Q (.v (.int (cnt ts L N p)))) : m_coins_on [.v (nsD N), .v (.int p.1), .v (.str "steps"), .v (prD ts), .v (caD L)] Q := by
  have ln : N.length ≤ 100 := by have := ok.ln; omega
  have b := ok.bd p hp
  have t1 := tot_bd ok d1 (pre L p.1)
  rw [e_coins_on]
  unfold b_coins_on_1
  walk_at "wl"
  refine sp_ahead ln hL h1 ?_
  walk_at "wl"
  unfold b_coins_on_0
  walk_at "wl"
  refine sp_tiers_of ?_
  walk_at "wl"
  refine sp_units_on ln ?_
  walk_at "wl"
  rw [tot_one ok.ri hp]
  refine sp_costI g (by omega) (by omega) (by omega) (by omega) ?_
  exact ⟨_, rfl, h⟩
def rowB (ts : List Ti) (L : Int) (N : List Ti) (p : Ti) : PyData := .tuple [.int p.1, .str "steps", .int p.2, .int (cnt ts L N p)]
theorem sp_bill (g : GTi ts) {d : Int} (ok : NOk d N) (d1 : d ≤ 10) (hL : 0 < L) (h1 : L < 100) {p : Ti} (hp : p ∈ N) (h : Q (.v (.tuple [rowB ts L N p]))) : m_bill_of [.v (nsD N), .v (.int p.1), .v (prD ts), .v (caD L)] Q := by
  have ln : N.length ≤ 100 := by have := ok.ln; omega
  unfold m_bill_of t_bill_of
  simp only [nsD]
  walk_at "wl"
  refine items_tup ?_
  refine cloop_if ntD (fun q : Ti => decide (q.1 = p.1)) (rowB ts L N) (fun q hq K1 K2 k1 k2 => ?_) (by omega) ?_
  · rw [show ntD q = .tuple [.int q.1, .str "steps", .int q.2] from rfl]
    walk_at "wl"
    by_cases e : q.1 = p.1
    · have eq : q = p := nd_inj (List.pairwise_map.mpr (ok.ri.imp fun h => Int.ne_of_lt h)) hq hp e
      subst eq
      refine ify (by simp) ?_
      refine sp_coins g ok d1 hL h1 hp ?_
      exact ⟨_, rfl, by simp, k1 (by simp)⟩
    · exact ifn (by simp [e]) (k2 (by simp [e]))
  · rw [filt_one ok.ri hp]
    walk_at "wl"
    exact h
theorem sortD_uniq {acc : List PyData} {ms ks : List Int} (a : IsSortedD acc ms) (b : IsSortedD acc ks) : ms = ks := by
  have p : ms.Perm ks := (List.perm_ext_iff_of_nodup (a.ri.imp fun h => Int.ne_of_lt h) (b.ri.imp fun h => Int.ne_of_lt h)).mpr fun k => (a.mem k).trans (b.mem k).symm
  exact p.eq_of_pairwise (le := (· ≤ ·)) (fun x y _ _ h1 h2 => Int.le_antisymm h1 h2) (a.ri.imp fun h => Int.le_of_lt h) (b.ri.imp fun h => Int.le_of_lt h)
theorem sp_until (g : GTi ts) (ok : NOk 6 N) (hL : 0 < L) (h1 : L < 100) (h : Q (.v (.tuple (N.map (rowB ts L N))))) : m_bills_until [.v (nsD N), .v (.int 6), .v (prD ts), .v (caD L)] Q := by
  have ln : N.length ≤ 6 := by have := ok.ln; omega
  rw [e_bills_until]
  unfold b_bills_until_2
  walk_at "wl"
  unfold b_bills_until_1
  simp only [nsD]
  walk_at "wl"
  refine ⟨_, rfl, by rw [List.length_map]; omega, ?_⟩
  refine cloop_if ntD (fun p : Ti => decide (p.1 < 6)) (fun p : Ti => .int p.1) (fun p hp K1 K2 k1 k2 => ?_) (by omega) ?_
  · rw [show ntD p = .tuple [.int p.1, .str "steps", .int p.2] from rfl]
    walk_at "wl"
    refine at0 ?_
    walk_at "wl"
    have := ok.bd p hp
    refine ifp (by omega) ?_
    exact at0 ⟨_, rfl, k1 (by simp; omega)⟩
  · rw [List.filter_eq_self.mpr fun p hp => by have := ok.bd p hp; simp; omega]
    intro ms hs
    have e : ms = N.map fun p : Ti => p.1 := sortD_uniq hs ⟨List.pairwise_map.mpr ok.ri, fun k => by simp [List.mem_map]⟩
    subst e
    clear hs
    walk_at "wl"
    refine items_own ?_
    rw [List.map_map]
    have lp : ∀ (suf bef : List Ti) (x5 : SV), N = bef ++ suf → vLoop (vgName 5) (vExtendQ 4 (vCallK 2 2 4 m_bill_of (vCons (vVar 0) (vCons (vVar 5) vNil)) (vCons (vVar 2) (vCons (vVar 3) vNil))))
        { nx := b_bills_until_0 { nx := fun x => Q (SV.v PyData.none), rt := Q, bk := fun x => False, ct := fun x => False }, rt := Q, bk := fun x => False, ct := fun x => False }
        (suf.map (PyData.int ∘ fun p : Ti => p.1)) [.v (.tuple (N.map ntD)), .v (.int 6), .v (prD ts), .v (caD L), .own (bef.map (rowB ts L N)), x5, .un] := by
      intro suf
      induction suf with
      | nil =>
        intro bef x5 e
        rw [List.append_nil] at e
        rw [List.map_nil, lp_nil]
        dsimp only
        unfold b_bills_until_0
        walk_at "wl"
        rw [← e]
        exact h
      | cons p suf ih =>
        intro bef x5 e
        rw [List.map_cons, lp_cons]
        have ih := fun x5 => ih (bef ++ [p]) x5 (by rw [e, List.append_assoc]; rfl)
        generalize hM : (fun ρ'' => vLoop _ _ _ (List.map (PyData.int ∘ fun p : Ti => p.1) suf) ρ'') = M
        have ih : ∀ x5, M [.v (.tuple (N.map ntD)), .v (.int 6), .v (prD ts), .v (caD L), .own ((bef ++ [p]).map (rowB ts L N)), x5, .un] := fun x5 => by rw [← hM]; exact ih x5
        clear hM
        have lb : bef.length ≤ 6 := by have := congrArg List.length e; rw [List.length_append] at this; omega
        walk_at "wl"
        refine sp_bill g ok (by omega) hL h1 (p := p) (by rw [e]; simp) ?_
        refine ⟨_, rfl, by rw [List.length_map]; simp; omega, ?_⟩
        rw [List.map_append] at ih
        exact ih _
    exact lp N [] _ rfl
end
/-! ### days -/
theorem tot_more {f : Int → Bool} {N : List Ti} {d u : Int} : tot f (if u = 0 then N else N ++ [(d, u)]) = tot f N + if f d = true then u else 0 := by
  by_cases hu : u = 0
  · rw [if_pos hu, hu]
    split <;> simp
  · rw [if_neg hu]
    unfold tot
    rw [List.filter_append, List.map_append, List.sum_append]
    congr 1
    rw [List.filter_cons]
    split <;> simp
theorem tot_congr {f g : Int → Bool} {N : List Ti} (h : ∀ p ∈ N, f p.1 = g p.1) : tot f N = tot g N := by
  unfold tot
  rw [List.filter_congr h]
def per (L P : Int) (e : Int) : Bool := decide (e / L = P)
theorem tot_app {f : Int → Bool} {M R : List Ti} : tot f (M ++ R) = tot f M + tot f R := by
  unfold tot
  rw [List.filter_append, List.map_append, List.sum_append]
theorem tot_nn {f : Int → Bool} : ∀ {M : List Ti}, (∀ p ∈ M, 0 ≤ p.2) → 0 ≤ tot f M
  | [], _ => Int.le_refl _
  | p :: M, h => by
    have ih := tot_nn (f := f) (M := M) fun q hq => h q (by simp [hq])
    have h1 := h p (by simp)
    unfold tot at ih ⊢
    rw [List.filter_cons]
    split
    · rw [List.map_cons, List.sum_cons]; omega
    · exact ih
theorem period_sum {ts : List Ti} (r : Ris ts) {L P : Int} : ∀ R : List Ti, Ris R.reverse → (∀ p ∈ R, 0 ≤ p.2) →
    ((R.reverse.filter fun p => per L P p.1).map (cnt ts L R.reverse)).sum = cst 0 (tot (per L P) R.reverse) ts
  | [], _, _ => by rw [show tot (per L P) ([] : List Ti).reverse = 0 from rfl, cst_void]; rfl
  | q :: R, ri, nn => by
    rw [List.reverse_cons] at ri ⊢
    have hr := List.pairwise_append.mp ri
    have lt : ∀ p ∈ R.reverse, p.1 < q.1 := fun p hp => hr.2.2 p hp q (by simp)
    have ih := period_sum r (L := L) (P := P) R hr.1 fun p hp => nn p (by simp [hp])
    have nq := nn q (by simp)
    have nR : ∀ p ∈ R.reverse, 0 ≤ p.2 := fun p hp => nn p (by simp [List.mem_reverse.mp hp])
    generalize R.reverse = M at *
    have old : ∀ p ∈ M.filter (fun p => per L P p.1), cnt ts L (M ++ [q]) p = cnt ts L M p := fun p hp => by
      have h1 := lt p (List.mem_filter.mp hp).1
      have : tot (pre L p.1) (M ++ [q]) = tot (pre L p.1) M := by
        rw [tot_app]
        have : tot (pre L p.1) [q] = 0 := by
          unfold tot
          rw [List.filter_cons, if_neg (by simp [pre]; omega)]
          rfl
        omega
      unfold cnt
      rw [this]
    rw [List.filter_append, List.map_append, List.sum_append, List.map_congr_left old, ih, tot_app]
    rw [List.filter_cons]
    by_cases e : per L P q.1 = true
    · rw [if_pos e]
      have e1 : q.1 / L = P := by simpa [per] using e
      have h2 : tot (pre L q.1) (M ++ [q]) = tot (per L P) M := by
        rw [tot_app]
        have a : tot (pre L q.1) M = tot (per L P) M := tot_congr fun p hp => by
          have := lt p hp
          simp [pre, per, this, e1]
        have b : tot (pre L q.1) [q] = 0 := by
          unfold tot
          rw [List.filter_cons, if_neg (by simp [pre])]
          rfl
        omega
      have h3 : tot (per L P) [q] = q.2 := by
        unfold tot
        rw [List.filter_cons, if_pos e]
        simp
      have h4 := tot_nn (f := per L P) nR
      have c := cst_add r (a := 0) (b := tot (per L P) M) (c := tot (per L P) M + q.2) h4 (by omega)
      have h5 : cnt ts L (M ++ [q]) q = cst (tot (per L P) M) (tot (per L P) M + q.2) ts := by unfold cnt; rw [h2]
      rw [h3, ← c, List.filter_nil, List.map_cons, List.map_nil, h5]
      simp
    · rw [if_neg e]
      have h3 : tot (per L P) [q] = 0 := by
        unfold tot
        rw [List.filter_cons, if_neg e]
        rfl
      rw [h3]
      simp
theorem period_all {ts : List Ti} (r : Ris ts) {L P : Int} {N : List Ti} (ri : Ris N) (nn : ∀ p ∈ N, 0 ≤ p.2) : ((N.filter fun p => per L P p.1).map (cnt ts L N)).sum = cst 0 (tot (per L P) N) ts := by
  have := period_sum r (L := L) (P := P) N.reverse (by rw [List.reverse_reverse]; exact ri) fun p hp => nn p (List.mem_reverse.mp hp)
  rwa [List.reverse_reverse] at this
/-- what the sums hold -/
structure SOk (L : Int) (N : List Ti) (kvs : List (L2.Key × PyData)) : Prop where
  ks : ∀ k ∈ kvs.map (·.1), ∃ P : Int, k = .inl P
  v : ∀ P : Int, (gFind kvs (.inl P)).getD (.int 0) = .int (tot (per L P) N)
theorem sok_more {L : Int} {N : List Ti} {kvs : List (L2.Key × PyData)} (s : SOk L N kvs) {d u : Int} : SOk L (if u = 0 then N else N ++ [(d, u)]) (gPut kvs (.inl (d / L)) (.int (tot (per L (d / L)) N + u))) := by
  refine ⟨fun k hk => ?_, fun P => ?_⟩
  · rw [gPut_keys] at hk
    split at hk
    · exact s.ks k hk
    · rcases List.mem_append.mp hk with hk | hk
      · exact s.ks k hk
      · exact ⟨_, List.mem_singleton.mp hk⟩
  · rw [gFind_put, tot_more]
    by_cases e : P = d / L
    · subst e
      rw [if_pos rfl, if_pos (by simp [per])]
      rfl
    · rw [if_neg (fun h => e (by injection h)), if_neg (by simp [per]; exact fun h => e h.symm), Int.add_zero]
      exact s.v P
theorem sp_days {a : Addr} {ns : List Int} {ts : List Ti} (g : GTi ts) {Q : SV → Prop} (h : Q (.v (.bool true))) : m_law_days_right [.cell a ⟨true, ns⟩, .v (tsD ts)] Q := by
  rw [e_law_days_right]
  unfold b_law_days_right_9
  walk_at "wl"
  refine sp_pick (many := 4) (by decide) (by decide) fun l l0 l1 => ?_
  walk_at "wl"
  generalize hL : 1 + l = L
  have L0 : 0 < L := by omega
  have L1 : L < 100 := by omega
  unfold b_law_days_right_8
  simp only [vSeq, s_forL]
  walk_at "wl"
  refine ⟨_, rfl, by decide, by decide, by decide, ?_⟩
  rw [List.range_eq_range']
  refine loop_ix (T := 6) (I := fun i ρ => ∃ (x2 x8 : SV) (N : List Ti) (kvs : List (L2.Key × PyData)), ρ = [.cell a ⟨true, ns⟩, .v (tsD ts), x2, .un, .un, .v (caD L), .v (nsD N), odK kvs, x8, .un, .un] ∧ NOk i N ∧ SOk L N kvs ∧ kvs.length ≤ i) (fun i => .int (0 + (i : Int))) (fun i ρ N hi hI hN => ?_) (fun ρ hI => ?_) 6 0 _ rfl
    ⟨_, _, [], [], rfl, ⟨List.Pairwise.nil, fun _ h => (nomatch h), by simp⟩, ⟨fun _ h => (nomatch h), fun P => rfl⟩, Nat.le_refl _⟩
  · obtain ⟨x2, x8, M, kvs, rfl, ok, so, lk⟩ := hI
    walk_at "wl"
    unfold b_law_days_right_2
    walk_at "wl"
    refine sp_great fun u u0 u1 => ?_
    walk_at "wl"
    unfold b_law_days_right_1
    walk_at "wl"
    refine sp_noted (d := 0 + (i : Int)) (by rw [Int.zero_add]; exact ok) (by omega) (by omega) u0 (by omega) ?_
    walk_at "wl"
    unfold b_law_days_right_0
    walk_at "wl"
    have ix : ∀ {R : SV → Prop}, R (.v (.int L)) → fIx (.v (caD L)) (.v (.int 1)) R := fun r => ⟨1, rfl, .inl ⟨_, _, rfl, rfl, r⟩⟩
    refine ix ?_
    walk_at "wl"
    refine ⟨divOk L0 (by omega), ?_⟩
    refine lk_K (k := .inl ((0 + (i : Int)) / L)) (kvs := kvs) (.inr (.inl rfl)) rfl ?_
    rw [so.v]
    walk_at "wl"
    refine ix ?_
    walk_at "wl"
    refine ⟨divOk L0 (by omega), by omega, ?_⟩
    have nk := noted_ok (N := M) (d := (i : Int)) ok (by omega) u0 (by omega)
    have sk := sok_more so (d := (i : Int)) (u := u)
    rw [Int.zero_add]
    refine hN _ ⟨_, _, _, _, rfl, by simpa using nk, sk, ?_⟩
    have := gPut_len kvs (.inl ((i : Int) / L)) (.int (tot (per L ((i : Int) / L)) M + u))
    omega
  · obtain ⟨x2, x8, M, kvs, rfl, ok, so, lk⟩ := hI
    dsimp only
    unfold b_law_days_right_7
    walk_at "wl"
    refine sp_until g ok L0 L1 ?_
    walk_at "wl"
    unfold b_law_days_right_6
    walk_at "wl"
    refine loop_inv (I := fun ρ => ∃ (x4 x9 x10 : SV), ρ = [.cell a ⟨true, ns⟩, .v (tsD ts), x2, .v (.tuple (M.map (rowB ts L M))), x4, .v (caD L), .v (nsD M), .dct kvs, x8, x9, x10]) (P := fun d => ∃ P : Int, d = .int P ∧ gFind kvs (.inl P) = some (.int (tot (per L P) M)))
      (fun d ρ N hp hI hN => ?_) (fun ρ hI => ?_) _ _ (fun d hd => ?_) ⟨_, _, _, rfl⟩
    · obtain ⟨P, rfl, hf⟩ := hp
      obtain ⟨x4, x9, x10, rfl⟩ := hI
      walk_at "wl"
      unfold b_law_days_right_4
      walk_at "wl"
      refine items_tup ?_
      refine cloop_if (rowB ts L M) (fun p : Ti => per L P p.1) (fun p : Ti => .int (cnt ts L M p)) (fun p hp K1 K2 k1 k2 => ?_) (by have := ok.ln; omega) ?_
      · rw [show rowB ts L M p = .tuple [.int p.1, .str "steps", .int p.2, .int (cnt ts L M p)] from rfl]
        have ix : ∀ {R : SV → Prop}, R (.v (.int L)) → fIx (.v (caD L)) (.v (.int 1)) R := fun r => ⟨1, rfl, .inl ⟨_, _, rfl, rfl, r⟩⟩
        walk_at "wl"
        refine at0 (ix ?_)
        walk_at "wl"
        refine ⟨divOk L0 (by omega), ?_⟩
        by_cases e : p.1 / L = P
        · exact ify (by simp [e]) (at3 (k1 (by simp [per, e])))
        · exact ifn (by simp [e]) (k2 (by simp [per, e]))
      · refine ⟨_, (M.filter fun p : Ti => per L P p.1).map (cnt ts L M), rfl, by rw [List.map_map]; rfl, ?_⟩
        rw [period_all g.ri ok.ri fun p hp => (ok.bd p hp).2.2.1]
        walk_at "wl"
        unfold b_law_days_right_3
        walk_at "wl"
        refine lk_K (k := .inl P) (kvs := kvs) (.inr (.inr (.inr rfl))) rfl ?_
        rw [hf]
        refine ⟨_, rfl, ?_⟩
        have tb := tot_bd ok (by omega) (per L P)
        refine sp_costI g tb.1 (by omega) (Int.le_refl 0) (by omega) ?_
        rw [Int.zero_add]
        walk_at "wl"
        exact ifq (by simp) (hN _ ⟨_, _, _, rfl⟩)
    · obtain ⟨x4, x9, x10, rfl⟩ := hI
      dsimp only
      unfold b_law_days_right_5
      walk_at "wl"
      exact h
    · obtain ⟨kv, hkv, rfl⟩ := List.mem_map.mp hd
      obtain ⟨P, eP⟩ := so.ks kv.1 (List.mem_map.mpr ⟨kv, hkv, rfl⟩)
      refine ⟨P, by rw [eP]; rfl, ?_⟩
      have h1 : (gFind kvs (.inl P)).isSome = true := key_iff.mpr (by rw [← eP]; exact List.mem_map.mpr ⟨kv, hkv, rfl⟩)
      obtain ⟨v, hv⟩ := Option.isSome_iff_exists.mp h1
      have h2 := so.v P
      rw [hv] at h2 ⊢
      exact congrArg some h2
theorem ris_ok {is : List Int} (r : is.Pairwise (· < ·)) : risI is = true := by
  unfold risI
  rw [List.all_eq_true]
  intro k hk
  have hk := List.mem_range.mp hk
  rw [decide_eq_true_eq, List.getD_eq_getElem?_getD, List.getD_eq_getElem?_getD, List.getElem?_eq_getElem (by omega), List.getElem?_eq_getElem (by omega)]
  exact List.pairwise_iff_getElem.mp r k (k + 1) (by omega) (by omega) (by omega)
theorem prices_ok {ts : List Ti} (g : GTi ts) (z : ∃ p ∈ ts, p.1 = 0) : pricesB (prD ts) = true := by
  have tb : tiersB (tsD ts) = true := by
    obtain ⟨p, hp, p0⟩ := z
    have al : (ts.map tD).all tierB = true := by
      rw [List.all_eq_true]
      intro d hd
      obtain ⟨q, hq, rfl⟩ := List.mem_map.mp hd
      have := g.nn q hq
      simp [tD, tierB, numB]
      omega
    have st : startI ((ts.map tD).getD 0 .none) = 0 := by
      have r := g.ri
      cases ts with
      | nil => cases hp
      | cons q us =>
        show q.1 = 0
        have h0 := g.nn q (by simp)
        rcases List.mem_cons.mp hp with rfl | hp
        · exact p0
        · have := (List.pairwise_cons.mp r).1 p hp
          omega
    have l0 : 1 ≤ ts.length := by cases ts with | nil => cases hp | cons _ _ => simp
    have e : (ts.map tD).map startI = ts.map fun p : Ti => p.1 := by rw [List.map_map]; rfl
    simp only [tsD, tiersB]
    rw [al, st, e, ris_ok (List.pairwise_map.mpr g.ri), List.length_map, decide_eq_true (show 1 ≤ ts.length ∧ ts.length ≤ 4 from ⟨l0, g.ln⟩)]
    rfl
  simp only [prD, pricesB, List.all_cons, List.all_nil, Bool.and_true, priceB, tb, List.map_cons, List.map_nil, nameS]
  decide +kernel
theorem prices_gm {ts : List Ti} (g : GTi ts) : Gm 64 50000 6 (prD ts) := by
  have g1 := GmA.all (b := 64) (c := 5000) (n := 3) (xs := ts.map tD) fun d hd => by
    obtain ⟨q, hq, rfl⟩ := List.mem_map.mp hd
    have := g.nn q hq
    exact (Gm.tup (GmA.cons (Gm.int (n := 2) (Nat.lt_of_le_of_lt (by omega : q.1.natAbs ≤ 1000000) (by decide))) (GmA.one (Gm.int (Nat.lt_of_le_of_lt (by omega : q.2.natAbs ≤ 10000000) (by decide)))))).mono (Nat.le_refl _) (by decide) (Nat.le_refl _)
  rw [List.length_map] at g1
  have gs : Gm 64 100 4 (.str "steps") := (Gm.str (by decide +kernel)).mono (Nat.le_refl _) (by decide) (Nat.le_refl _)
  exact (Gm.tup (GmA.one (Gm.tup (GmA.cons gs (GmA.one (Gm.tup g1)))))).mono (Nat.le_refl _) (by have := g.ln; omega) (by decide)
theorem law_true (ns : List Int) (h : ns.length ≤ 63) : m_law [.scr ns] (fun s => s = .v (.bool true)) := by
  rw [e_law]
  unfold b_law_6
  walk_at "wl"
  refine sp_tap fun a ms => ?_
  walk_at "wl"
  unfold b_law_5
  simp only [vSeq, s_forL]
  walk_at "wl"
  refine ⟨_, rfl, by decide, by decide, by decide, ?_⟩
  rw [List.range_eq_range']
  refine loop_ix (T := 5) (I := fun i ρ => ∃ x2 x3 x4 : SV, ρ = [.scr ns, .cell a ⟨true, ms⟩, x2, x3, x4]) (fun i => .int (0 + (i : Int))) (fun i ρ N hi hI hN => ?_) (fun ρ hI => ?_) 5 0 _ rfl ⟨_, _, _, rfl⟩
  · obtain ⟨x2, x3, x4, rfl⟩ := hI
    walk_at "wl"
    unfold b_law_3
    walk_at "wl"
    refine sp_tiers fun ts g bd z => ?_
    walk_at "wl"
    unfold b_law_2
    walk_at "wl"
    refine sp_is_prices (prices_gm g) (by decide) (N := 1) (by decide) (fun xs e => by cases e; exact Nat.le_refl _) ?_
    rw [prices_ok g z]
    walk_at "wl"
    unfold b_law_1
    simp only [vSeq, s_forL]
    walk_at "wl"
    refine ⟨_, rfl, by decide, by decide, by decide, ?_⟩
    rw [List.range_eq_range']
    refine loop_ix (T := 3) (I := fun j ρ => ∃ x2 x4 : SV, ρ = [.scr ns, .cell a ⟨true, ms⟩, x2, .v (tsD ts), x4]) (fun i => .int (0 + (i : Int))) (fun j ρ N' hj hI hN' => ?_) (fun ρ hI => ?_) 3 0 _ rfl ⟨_, _, rfl⟩
    · obtain ⟨x2, x4, rfl⟩ := hI
      walk_at "wl"
      refine sp_parted g bd z ?_
      walk_at "wl"
      exact ifq (by decide) (hN' _ ⟨_, _, rfl⟩)
    · obtain ⟨x2, x4, rfl⟩ := hI
      dsimp only
      unfold b_law_0
      walk_at "wl"
      refine sp_days g ?_
      walk_at "wl"
      exact ifq (by decide) (hN _ ⟨_, _, _, rfl⟩)
  · obtain ⟨x2, x3, x4, rfl⟩ := hI
    dsimp only
    unfold b_law_4
    walk_at "wl"
/-! ### the end -/
def txt_mk {K : PySem.W.Frag} {h : Heap} {mg : Str → Option Value} {w : World} (X : K.In h) (G : h.Ns mainGlobals mg)
    {t_KINDS_0 : Tok} {t_KINDS_1 : Tok} {t_KINDS_2 : Tok} {a_KINDS : Addr} {o_KINDS : Obj} {n_KINDS : Nat} {t_MOST_TIERS : Tok} {t_CALENDAR_0 : Tok} {t_CALENDAR_1 : Tok} {a_CALENDAR : Addr} {o_CALENDAR : Obj} {n_CALENDAR : Nat} {f_is_whole : Addr} {oc_is_whole kV_is_whole doc_is_whole pm_is_whole cd_is_whole ct_is_whole : Value} {od_is_whole an_is_whole : Option Addr} {osl_is_whole : Array (Option Value)} {f_is_number : Addr} {oc_is_number kV_is_number doc_is_number pm_is_number cd_is_number ct_is_number : Value} {od_is_number an_is_number : Option Addr} {osl_is_number : Array (Option Value)} {f_is_tuple_of : Addr} {oc_is_tuple_of kV_is_tuple_of doc_is_tuple_of pm_is_tuple_of cd_is_tuple_of ct_is_tuple_of : Value} {od_is_tuple_of an_is_tuple_of : Option Addr} {osl_is_tuple_of : Array (Option Value)} {f_are_rising : Addr} {oc_are_rising kV_are_rising doc_are_rising pm_are_rising cd_are_rising ct_are_rising : Value} {od_are_rising an_are_rising : Option Addr} {osl_are_rising : Array (Option Value)} {f_is_kind : Addr} {oc_is_kind kV_is_kind doc_is_kind pm_is_kind cd_is_kind ct_is_kind : Value} {od_is_kind an_is_kind : Option Addr} {osl_is_kind : Array (Option Value)} {f_is_tier : Addr} {oc_is_tier kV_is_tier doc_is_tier pm_is_tier cd_is_tier ct_is_tier : Value} {od_is_tier an_is_tier : Option Addr} {osl_is_tier : Array (Option Value)} {f_are_tiers : Addr} {oc_are_tiers kV_are_tiers doc_are_tiers pm_are_tiers cd_are_tiers ct_are_tiers : Value} {od_are_tiers an_are_tiers : Option Addr} {osl_are_tiers : Array (Option Value)} {f_is_price : Addr} {oc_is_price kV_is_price doc_is_price pm_is_price cd_is_price ct_is_price : Value} {od_is_price an_is_price : Option Addr} {osl_is_price : Array (Option Value)} {f_is_prices : Addr} {oc_is_prices kV_is_prices doc_is_prices pm_is_prices cd_is_prices ct_is_prices : Value} {od_is_prices an_is_prices : Option Addr} {osl_is_prices : Array (Option Value)} {f_tiers_of : Addr} {oc_tiers_of kV_tiers_of doc_tiers_of pm_tiers_of cd_tiers_of ct_tiers_of : Value} {od_tiers_of an_tiers_of : Option Addr} {osl_tiers_of : Array (Option Value)} {f_cost : Addr} {oc_cost kV_cost doc_cost pm_cost cd_cost ct_cost : Value} {od_cost an_cost : Option Addr} {osl_cost : Array (Option Value)} {D_cost : Addr} {tk_cost_ahead : Tok} {f_period_of : Addr} {oc_period_of kV_period_of doc_period_of pm_period_of cd_period_of ct_period_of : Value} {od_period_of an_period_of : Option Addr} {osl_period_of : Array (Option Value)} {D_period_of : Addr} {f_noted : Addr} {oc_noted kV_noted doc_noted pm_noted cd_noted ct_noted : Value} {od_noted an_noted : Option Addr} {osl_noted : Array (Option Value)} {f_units_on : Addr} {oc_units_on kV_units_on doc_units_on pm_units_on cd_units_on ct_units_on : Value} {od_units_on an_units_on : Option Addr} {osl_units_on : Array (Option Value)} {f_units_ahead : Addr} {oc_units_ahead kV_units_ahead doc_units_ahead pm_units_ahead cd_units_ahead ct_units_ahead : Value} {od_units_ahead an_units_ahead : Option Addr} {osl_units_ahead : Array (Option Value)} {f_coins_on : Addr} {oc_coins_on kV_coins_on doc_coins_on pm_coins_on cd_coins_on ct_coins_on : Value} {od_coins_on an_coins_on : Option Addr} {osl_coins_on : Array (Option Value)} {f_bill_of : Addr} {oc_bill_of kV_bill_of doc_bill_of pm_bill_of cd_bill_of ct_bill_of : Value} {od_bill_of an_bill_of : Option Addr} {osl_bill_of : Array (Option Value)} {D_bill_of : Addr} {f_bills_until : Addr} {oc_bills_until kV_bills_until doc_bills_until pm_bills_until cd_bills_until ct_bills_until : Value} {od_bills_until an_bills_until : Option Addr} {osl_bills_until : Array (Option Value)} {D_bills_until : Addr} {f_law_tap : Addr} {oc_law_tap kV_law_tap doc_law_tap pm_law_tap cd_law_tap ct_law_tap : Value} {od_law_tap an_law_tap : Option Addr} {osl_law_tap : Array (Option Value)} {f_law_pick : Addr} {oc_law_pick kV_law_pick doc_law_pick pm_law_pick cd_law_pick ct_law_pick : Value} {od_law_pick an_law_pick : Option Addr} {osl_law_pick : Array (Option Value)} {f_law_great : Addr} {oc_law_great kV_law_great doc_law_great pm_law_great cd_law_great ct_law_great : Value} {od_law_great an_law_great : Option Addr} {osl_law_great : Array (Option Value)} {f_law_tiers : Addr} {oc_law_tiers kV_law_tiers doc_law_tiers pm_law_tiers cd_law_tiers ct_law_tiers : Value} {od_law_tiers an_law_tiers : Option Addr} {osl_law_tiers : Array (Option Value)} {f_law_finer : Addr} {oc_law_finer kV_law_finer doc_law_finer pm_law_finer cd_law_finer ct_law_finer : Value} {od_law_finer an_law_finer : Option Addr} {osl_law_finer : Array (Option Value)} {f_law_parted_right : Addr} {oc_law_parted_right kV_law_parted_right doc_law_parted_right pm_law_parted_right cd_law_parted_right ct_law_parted_right : Value} {od_law_parted_right an_law_parted_right : Option Addr} {osl_law_parted_right : Array (Option Value)} {f_law_days_right : Addr} {oc_law_days_right kV_law_days_right doc_law_days_right pm_law_days_right cd_law_days_right ct_law_days_right : Value} {od_law_days_right an_law_days_right : Option Addr} {osl_law_days_right : Array (Option Value)} {f_law : Addr} {oc_law kV_law doc_law pm_law cd_law ct_law : Value} {od_law an_law : Option Addr} {osl_law : Array (Option Value)}
    (c_KINDS : PySem.W.nsIn K mainGlobals "KINDS" = some (some (.ref a_KINDS)))
    (l_KINDS : K.lookup a_KINDS = some o_KINDS)
    (k_KINDS : o_KINDS.cls = .type "tuple")
    (nd_KINDS : o_KINDS.dict = none)
    (d_KINDS : o_KINDS.data = .seq (List.toArray [.str "letters" t_KINDS_0, .str "room" t_KINDS_1, .str "steps" t_KINDS_2]) n_KINDS)
    (c_MOST_TIERS : PySem.W.nsIn K mainGlobals "MOST_TIERS" = some (some (.int (4) t_MOST_TIERS)))
    (c_CALENDAR : PySem.W.nsIn K mainGlobals "CALENDAR" = some (some (.ref a_CALENDAR)))
    (l_CALENDAR : K.lookup a_CALENDAR = some o_CALENDAR)
    (k_CALENDAR : o_CALENDAR.cls = .type "tuple")
    (nd_CALENDAR : o_CALENDAR.dict = none)
    (d_CALENDAR : o_CALENDAR.data = .seq (List.toArray [.int (5) t_CALENDAR_0, .int (4) t_CALENDAR_1]) n_CALENDAR)
    (b_all : PySem.W.nsIn K mainGlobals "all" = some none)
    (b_bool : PySem.W.nsIn K mainGlobals "bool" = some none)
    (b_dict : PySem.W.nsIn K mainGlobals "dict" = some none)
    (b_enumerate : PySem.W.nsIn K mainGlobals "enumerate" = some none)
    (b_int : PySem.W.nsIn K mainGlobals "int" = some none)
    (b_isinstance : PySem.W.nsIn K mainGlobals "isinstance" = some none)
    (b_len : PySem.W.nsIn K mainGlobals "len" = some none)
    (b_list : PySem.W.nsIn K mainGlobals "list" = some none)
    (b_max : PySem.W.nsIn K mainGlobals "max" = some none)
    (b_min : PySem.W.nsIn K mainGlobals "min" = some none)
    (b_range : PySem.W.nsIn K mainGlobals "range" = some none)
    (b_sorted : PySem.W.nsIn K mainGlobals "sorted" = some none)
    (b_sum : PySem.W.nsIn K mainGlobals "sum" = some none)
    (b_tuple : PySem.W.nsIn K mainGlobals "tuple" = some none)
    (c_is_whole : PySem.W.nsIn K mainGlobals "is_whole" = some (some (.ref f_is_whole)))
    (l_is_whole : K.lookup f_is_whole = some ⟨oc_is_whole, od_is_whole, .func (PySem.W.fnOf "is_whole" "is_whole" (defArgs s_is_whole) (defBody s_is_whole) (defScope s_is_whole) .none kV_is_whole doc_is_whole pm_is_whole an_is_whole cd_is_whole ct_is_whole), osl_is_whole⟩)
    (q_is_whole : PySem.W.codeIn K cd_is_whole "is_whole" = true)
    (k_is_whole : PySem.W.keepIn K (.ref f_is_whole) = true)
    (c_is_number : PySem.W.nsIn K mainGlobals "is_number" = some (some (.ref f_is_number)))
    (l_is_number : K.lookup f_is_number = some ⟨oc_is_number, od_is_number, .func (PySem.W.fnOf "is_number" "is_number" (defArgs s_is_number) (defBody s_is_number) (defScope s_is_number) .none kV_is_number doc_is_number pm_is_number an_is_number cd_is_number ct_is_number), osl_is_number⟩)
    (q_is_number : PySem.W.codeIn K cd_is_number "is_number" = true)
    (k_is_number : PySem.W.keepIn K (.ref f_is_number) = true)
    (c_is_tuple_of : PySem.W.nsIn K mainGlobals "is_tuple_of" = some (some (.ref f_is_tuple_of)))
    (l_is_tuple_of : K.lookup f_is_tuple_of = some ⟨oc_is_tuple_of, od_is_tuple_of, .func (PySem.W.fnOf "is_tuple_of" "is_tuple_of" (defArgs s_is_tuple_of) (defBody s_is_tuple_of) (defScope s_is_tuple_of) .none kV_is_tuple_of doc_is_tuple_of pm_is_tuple_of an_is_tuple_of cd_is_tuple_of ct_is_tuple_of), osl_is_tuple_of⟩)
    (q_is_tuple_of : PySem.W.codeIn K cd_is_tuple_of "is_tuple_of" = true)
    (k_is_tuple_of : PySem.W.keepIn K (.ref f_is_tuple_of) = true)
    (c_are_rising : PySem.W.nsIn K mainGlobals "are_rising" = some (some (.ref f_are_rising)))
    (l_are_rising : K.lookup f_are_rising = some ⟨oc_are_rising, od_are_rising, .func (PySem.W.fnOf "are_rising" "are_rising" (defArgs s_are_rising) (defBody s_are_rising) (defScope s_are_rising) .none kV_are_rising doc_are_rising pm_are_rising an_are_rising cd_are_rising ct_are_rising), osl_are_rising⟩)
    (q_are_rising : PySem.W.codeIn K cd_are_rising "are_rising" = true)
    (k_are_rising : PySem.W.keepIn K (.ref f_are_rising) = true)
    (c_is_kind : PySem.W.nsIn K mainGlobals "is_kind" = some (some (.ref f_is_kind)))
    (l_is_kind : K.lookup f_is_kind = some ⟨oc_is_kind, od_is_kind, .func (PySem.W.fnOf "is_kind" "is_kind" (defArgs s_is_kind) (defBody s_is_kind) (defScope s_is_kind) .none kV_is_kind doc_is_kind pm_is_kind an_is_kind cd_is_kind ct_is_kind), osl_is_kind⟩)
    (q_is_kind : PySem.W.codeIn K cd_is_kind "is_kind" = true)
    (k_is_kind : PySem.W.keepIn K (.ref f_is_kind) = true)
    (c_is_tier : PySem.W.nsIn K mainGlobals "is_tier" = some (some (.ref f_is_tier)))
    (l_is_tier : K.lookup f_is_tier = some ⟨oc_is_tier, od_is_tier, .func (PySem.W.fnOf "is_tier" "is_tier" (defArgs s_is_tier) (defBody s_is_tier) (defScope s_is_tier) .none kV_is_tier doc_is_tier pm_is_tier an_is_tier cd_is_tier ct_is_tier), osl_is_tier⟩)
    (q_is_tier : PySem.W.codeIn K cd_is_tier "is_tier" = true)
    (k_is_tier : PySem.W.keepIn K (.ref f_is_tier) = true)
    (c_are_tiers : PySem.W.nsIn K mainGlobals "are_tiers" = some (some (.ref f_are_tiers)))
    (l_are_tiers : K.lookup f_are_tiers = some ⟨oc_are_tiers, od_are_tiers, .func (PySem.W.fnOf "are_tiers" "are_tiers" (defArgs s_are_tiers) (defBody s_are_tiers) (defScope s_are_tiers) .none kV_are_tiers doc_are_tiers pm_are_tiers an_are_tiers cd_are_tiers ct_are_tiers), osl_are_tiers⟩)
    (q_are_tiers : PySem.W.codeIn K cd_are_tiers "are_tiers" = true)
    (k_are_tiers : PySem.W.keepIn K (.ref f_are_tiers) = true)
    (c_is_price : PySem.W.nsIn K mainGlobals "is_price" = some (some (.ref f_is_price)))
    (l_is_price : K.lookup f_is_price = some ⟨oc_is_price, od_is_price, .func (PySem.W.fnOf "is_price" "is_price" (defArgs s_is_price) (defBody s_is_price) (defScope s_is_price) .none kV_is_price doc_is_price pm_is_price an_is_price cd_is_price ct_is_price), osl_is_price⟩)
    (q_is_price : PySem.W.codeIn K cd_is_price "is_price" = true)
    (k_is_price : PySem.W.keepIn K (.ref f_is_price) = true)
    (c_is_prices : PySem.W.nsIn K mainGlobals "is_prices" = some (some (.ref f_is_prices)))
    (l_is_prices : K.lookup f_is_prices = some ⟨oc_is_prices, od_is_prices, .func (PySem.W.fnOf "is_prices" "is_prices" (defArgs s_is_prices) (defBody s_is_prices) (defScope s_is_prices) .none kV_is_prices doc_is_prices pm_is_prices an_is_prices cd_is_prices ct_is_prices), osl_is_prices⟩)
    (q_is_prices : PySem.W.codeIn K cd_is_prices "is_prices" = true)
    (k_is_prices : PySem.W.keepIn K (.ref f_is_prices) = true)
    (c_tiers_of : PySem.W.nsIn K mainGlobals "tiers_of" = some (some (.ref f_tiers_of)))
    (l_tiers_of : K.lookup f_tiers_of = some ⟨oc_tiers_of, od_tiers_of, .func (PySem.W.fnOf "tiers_of" "tiers_of" (defArgs s_tiers_of) (defBody s_tiers_of) (defScope s_tiers_of) .none kV_tiers_of doc_tiers_of pm_tiers_of an_tiers_of cd_tiers_of ct_tiers_of), osl_tiers_of⟩)
    (q_tiers_of : PySem.W.codeIn K cd_tiers_of "tiers_of" = true)
    (k_tiers_of : PySem.W.keepIn K (.ref f_tiers_of) = true)
    (c_cost : PySem.W.nsIn K mainGlobals "cost" = some (some (.ref f_cost)))
    (l_cost : K.lookup f_cost = some ⟨oc_cost, od_cost, .func (PySem.W.fnOf "cost" "cost" (defArgs s_cost) (defBody s_cost) (defScope s_cost) .none kV_cost doc_cost pm_cost an_cost cd_cost ct_cost), osl_cost⟩)
    (q_cost : PySem.W.codeIn K cd_cost "cost" = true)
    (k_cost : PySem.W.keepIn K (.ref f_cost) = true)
    (D1_cost : kV_cost = .ref D_cost)
    (D2_cost_ahead : PySem.W.nsIn K D_cost "ahead" = some (some (.int (0) tk_cost_ahead)))
    (c_period_of : PySem.W.nsIn K mainGlobals "period_of" = some (some (.ref f_period_of)))
    (l_period_of : K.lookup f_period_of = some ⟨oc_period_of, od_period_of, .func (PySem.W.fnOf "period_of" "period_of" (defArgs s_period_of) (defBody s_period_of) (defScope s_period_of) .none kV_period_of doc_period_of pm_period_of an_period_of cd_period_of ct_period_of), osl_period_of⟩)
    (q_period_of : PySem.W.codeIn K cd_period_of "period_of" = true)
    (k_period_of : PySem.W.keepIn K (.ref f_period_of) = true)
    (D1_period_of : kV_period_of = .ref D_period_of)
    (D2_period_of_calendar : PySem.W.nsIn K D_period_of "calendar" = some (some (.ref a_CALENDAR)))
    (c_noted : PySem.W.nsIn K mainGlobals "noted" = some (some (.ref f_noted)))
    (l_noted : K.lookup f_noted = some ⟨oc_noted, od_noted, .func (PySem.W.fnOf "noted" "noted" (defArgs s_noted) (defBody s_noted) (defScope s_noted) .none kV_noted doc_noted pm_noted an_noted cd_noted ct_noted), osl_noted⟩)
    (q_noted : PySem.W.codeIn K cd_noted "noted" = true)
    (k_noted : PySem.W.keepIn K (.ref f_noted) = true)
    (c_units_on : PySem.W.nsIn K mainGlobals "units_on" = some (some (.ref f_units_on)))
    (l_units_on : K.lookup f_units_on = some ⟨oc_units_on, od_units_on, .func (PySem.W.fnOf "units_on" "units_on" (defArgs s_units_on) (defBody s_units_on) (defScope s_units_on) .none kV_units_on doc_units_on pm_units_on an_units_on cd_units_on ct_units_on), osl_units_on⟩)
    (q_units_on : PySem.W.codeIn K cd_units_on "units_on" = true)
    (k_units_on : PySem.W.keepIn K (.ref f_units_on) = true)
    (c_units_ahead : PySem.W.nsIn K mainGlobals "units_ahead" = some (some (.ref f_units_ahead)))
    (l_units_ahead : K.lookup f_units_ahead = some ⟨oc_units_ahead, od_units_ahead, .func (PySem.W.fnOf "units_ahead" "units_ahead" (defArgs s_units_ahead) (defBody s_units_ahead) (defScope s_units_ahead) .none kV_units_ahead doc_units_ahead pm_units_ahead an_units_ahead cd_units_ahead ct_units_ahead), osl_units_ahead⟩)
    (q_units_ahead : PySem.W.codeIn K cd_units_ahead "units_ahead" = true)
    (k_units_ahead : PySem.W.keepIn K (.ref f_units_ahead) = true)
    (c_coins_on : PySem.W.nsIn K mainGlobals "coins_on" = some (some (.ref f_coins_on)))
    (l_coins_on : K.lookup f_coins_on = some ⟨oc_coins_on, od_coins_on, .func (PySem.W.fnOf "coins_on" "coins_on" (defArgs s_coins_on) (defBody s_coins_on) (defScope s_coins_on) .none kV_coins_on doc_coins_on pm_coins_on an_coins_on cd_coins_on ct_coins_on), osl_coins_on⟩)
    (q_coins_on : PySem.W.codeIn K cd_coins_on "coins_on" = true)
    (k_coins_on : PySem.W.keepIn K (.ref f_coins_on) = true)
    (c_bill_of : PySem.W.nsIn K mainGlobals "bill_of" = some (some (.ref f_bill_of)))
    (l_bill_of : K.lookup f_bill_of = some ⟨oc_bill_of, od_bill_of, .func (PySem.W.fnOf "bill_of" "bill_of" (defArgs s_bill_of) (defBody s_bill_of) (defScope s_bill_of) .none kV_bill_of doc_bill_of pm_bill_of an_bill_of cd_bill_of ct_bill_of), osl_bill_of⟩)
    (q_bill_of : PySem.W.codeIn K cd_bill_of "bill_of" = true)
    (k_bill_of : PySem.W.keepIn K (.ref f_bill_of) = true)
    (D1_bill_of : kV_bill_of = .ref D_bill_of)
    (D2_bill_of_calendar : PySem.W.nsIn K D_bill_of "calendar" = some (some (.ref a_CALENDAR)))
    (c_bills_until : PySem.W.nsIn K mainGlobals "bills_until" = some (some (.ref f_bills_until)))
    (l_bills_until : K.lookup f_bills_until = some ⟨oc_bills_until, od_bills_until, .func (PySem.W.fnOf "bills_until" "bills_until" (defArgs s_bills_until) (defBody s_bills_until) (defScope s_bills_until) .none kV_bills_until doc_bills_until pm_bills_until an_bills_until cd_bills_until ct_bills_until), osl_bills_until⟩)
    (q_bills_until : PySem.W.codeIn K cd_bills_until "bills_until" = true)
    (k_bills_until : PySem.W.keepIn K (.ref f_bills_until) = true)
    (D1_bills_until : kV_bills_until = .ref D_bills_until)
    (D2_bills_until_calendar : PySem.W.nsIn K D_bills_until "calendar" = some (some (.ref a_CALENDAR)))
    (c_law_tap : PySem.W.nsIn K mainGlobals "_law_tap" = some (some (.ref f_law_tap)))
    (l_law_tap : K.lookup f_law_tap = some ⟨oc_law_tap, od_law_tap, .func (PySem.W.fnOf "_law_tap" "_law_tap" (defArgs s_law_tap) (defBody s_law_tap) (defScope s_law_tap) .none kV_law_tap doc_law_tap pm_law_tap an_law_tap cd_law_tap ct_law_tap), osl_law_tap⟩)
    (q_law_tap : PySem.W.codeIn K cd_law_tap "_law_tap" = true)
    (k_law_tap : PySem.W.keepIn K (.ref f_law_tap) = true)
    (c_law_pick : PySem.W.nsIn K mainGlobals "_law_pick" = some (some (.ref f_law_pick)))
    (l_law_pick : K.lookup f_law_pick = some ⟨oc_law_pick, od_law_pick, .func (PySem.W.fnOf "_law_pick" "_law_pick" (defArgs s_law_pick) (defBody s_law_pick) (defScope s_law_pick) .none kV_law_pick doc_law_pick pm_law_pick an_law_pick cd_law_pick ct_law_pick), osl_law_pick⟩)
    (q_law_pick : PySem.W.codeIn K cd_law_pick "_law_pick" = true)
    (k_law_pick : PySem.W.keepIn K (.ref f_law_pick) = true)
    (c_law_great : PySem.W.nsIn K mainGlobals "_law_great" = some (some (.ref f_law_great)))
    (l_law_great : K.lookup f_law_great = some ⟨oc_law_great, od_law_great, .func (PySem.W.fnOf "_law_great" "_law_great" (defArgs s_law_great) (defBody s_law_great) (defScope s_law_great) .none kV_law_great doc_law_great pm_law_great an_law_great cd_law_great ct_law_great), osl_law_great⟩)
    (q_law_great : PySem.W.codeIn K cd_law_great "_law_great" = true)
    (k_law_great : PySem.W.keepIn K (.ref f_law_great) = true)
    (c_law_tiers : PySem.W.nsIn K mainGlobals "_law_tiers" = some (some (.ref f_law_tiers)))
    (l_law_tiers : K.lookup f_law_tiers = some ⟨oc_law_tiers, od_law_tiers, .func (PySem.W.fnOf "_law_tiers" "_law_tiers" (defArgs s_law_tiers) (defBody s_law_tiers) (defScope s_law_tiers) .none kV_law_tiers doc_law_tiers pm_law_tiers an_law_tiers cd_law_tiers ct_law_tiers), osl_law_tiers⟩)
    (q_law_tiers : PySem.W.codeIn K cd_law_tiers "_law_tiers" = true)
    (k_law_tiers : PySem.W.keepIn K (.ref f_law_tiers) = true)
    (c_law_finer : PySem.W.nsIn K mainGlobals "_law_finer" = some (some (.ref f_law_finer)))
    (l_law_finer : K.lookup f_law_finer = some ⟨oc_law_finer, od_law_finer, .func (PySem.W.fnOf "_law_finer" "_law_finer" (defArgs s_law_finer) (defBody s_law_finer) (defScope s_law_finer) .none kV_law_finer doc_law_finer pm_law_finer an_law_finer cd_law_finer ct_law_finer), osl_law_finer⟩)
    (q_law_finer : PySem.W.codeIn K cd_law_finer "_law_finer" = true)
    (k_law_finer : PySem.W.keepIn K (.ref f_law_finer) = true)
    (c_law_parted_right : PySem.W.nsIn K mainGlobals "_law_parted_right" = some (some (.ref f_law_parted_right)))
    (l_law_parted_right : K.lookup f_law_parted_right = some ⟨oc_law_parted_right, od_law_parted_right, .func (PySem.W.fnOf "_law_parted_right" "_law_parted_right" (defArgs s_law_parted_right) (defBody s_law_parted_right) (defScope s_law_parted_right) .none kV_law_parted_right doc_law_parted_right pm_law_parted_right an_law_parted_right cd_law_parted_right ct_law_parted_right), osl_law_parted_right⟩)
    (q_law_parted_right : PySem.W.codeIn K cd_law_parted_right "_law_parted_right" = true)
    (k_law_parted_right : PySem.W.keepIn K (.ref f_law_parted_right) = true)
    (c_law_days_right : PySem.W.nsIn K mainGlobals "_law_days_right" = some (some (.ref f_law_days_right)))
    (l_law_days_right : K.lookup f_law_days_right = some ⟨oc_law_days_right, od_law_days_right, .func (PySem.W.fnOf "_law_days_right" "_law_days_right" (defArgs s_law_days_right) (defBody s_law_days_right) (defScope s_law_days_right) .none kV_law_days_right doc_law_days_right pm_law_days_right an_law_days_right cd_law_days_right ct_law_days_right), osl_law_days_right⟩)
    (q_law_days_right : PySem.W.codeIn K cd_law_days_right "_law_days_right" = true)
    (k_law_days_right : PySem.W.keepIn K (.ref f_law_days_right) = true)
    (c_law : PySem.W.nsIn K mainGlobals "law" = some (some (.ref f_law)))
    (l_law : K.lookup f_law = some ⟨oc_law, od_law, .func (PySem.W.fnOf "law" "law" (defArgs s_law) (defBody s_law) (defScope s_law) .none kV_law doc_law pm_law an_law cd_law ct_law), osl_law⟩)
    (q_law : PySem.W.codeIn K cd_law "law" = true)
    (k_law : PySem.W.keepIn K (.ref f_law) = true) : Txt K mg w where
  a_KINDS := a_KINDS
  g_KINDS := PySem.W.mg_of X G c_KINDS
  r_KINDS := fun F H => kt_tup (us := [.str "letters", .str "room", .str "steps"]) l_KINDS k_KINDS nd_KINDS d_KINDS (by show 3 ≤ 1000; decide) (.cons ⟨_, rfl⟩ (.cons ⟨_, rfl⟩ (.cons ⟨_, rfl⟩ (.nil)))) (.cons (.str _) (.cons (.str _) (.cons (.str _) (.nil))))
  g_MOST_TIERS := ⟨_, PySem.W.mg_of X G c_MOST_TIERS⟩
  a_CALENDAR := a_CALENDAR
  g_CALENDAR := PySem.W.mg_of X G c_CALENDAR
  r_CALENDAR := fun F H => kt_tup (us := [.int (5), .int (4)]) l_CALENDAR k_CALENDAR nd_CALENDAR d_CALENDAR (by show 2 ≤ 1000; decide) (.cons ⟨_, rfl⟩ (.cons ⟨_, rfl⟩ (.nil))) (.cons (.int _) (.cons (.int _) (.nil)))
  b_all := PySem.W.mg_none_of X G b_all
  b_bool := PySem.W.mg_none_of X G b_bool
  b_dict := PySem.W.mg_none_of X G b_dict
  b_enumerate := PySem.W.mg_none_of X G b_enumerate
  b_int := PySem.W.mg_none_of X G b_int
  b_isinstance := PySem.W.mg_none_of X G b_isinstance
  b_len := PySem.W.mg_none_of X G b_len
  b_list := PySem.W.mg_none_of X G b_list
  b_max := PySem.W.mg_none_of X G b_max
  b_min := PySem.W.mg_none_of X G b_min
  b_range := PySem.W.mg_none_of X G b_range
  b_sorted := PySem.W.mg_none_of X G b_sorted
  b_sum := PySem.W.mg_none_of X G b_sum
  b_tuple := PySem.W.mg_none_of X G b_tuple
  a_is_whole := f_is_whole
  fd_is_whole := _
  g_is_whole := PySem.W.mg_of X G c_is_whole
  F_is_whole := fund_mk (st := s_is_whole) l_is_whole q_is_whole k_is_whole (.inl rfl)
  a_is_number := f_is_number
  fd_is_number := _
  g_is_number := PySem.W.mg_of X G c_is_number
  F_is_number := fund_mk (st := s_is_number) l_is_number q_is_number k_is_number (.inl rfl)
  a_is_tuple_of := f_is_tuple_of
  fd_is_tuple_of := _
  g_is_tuple_of := PySem.W.mg_of X G c_is_tuple_of
  F_is_tuple_of := fund_mk (st := s_is_tuple_of) l_is_tuple_of q_is_tuple_of k_is_tuple_of (.inl rfl)
  a_are_rising := f_are_rising
  fd_are_rising := _
  g_are_rising := PySem.W.mg_of X G c_are_rising
  F_are_rising := fund_mk (st := s_are_rising) l_are_rising q_are_rising k_are_rising (.inl rfl)
  a_is_kind := f_is_kind
  fd_is_kind := _
  g_is_kind := PySem.W.mg_of X G c_is_kind
  F_is_kind := fund_mk (st := s_is_kind) l_is_kind q_is_kind k_is_kind (.inl rfl)
  a_is_tier := f_is_tier
  fd_is_tier := _
  g_is_tier := PySem.W.mg_of X G c_is_tier
  F_is_tier := fund_mk (st := s_is_tier) l_is_tier q_is_tier k_is_tier (.inl rfl)
  a_are_tiers := f_are_tiers
  fd_are_tiers := _
  g_are_tiers := PySem.W.mg_of X G c_are_tiers
  F_are_tiers := fund_mk (st := s_are_tiers) l_are_tiers q_are_tiers k_are_tiers (.inl rfl)
  a_is_price := f_is_price
  fd_is_price := _
  g_is_price := PySem.W.mg_of X G c_is_price
  F_is_price := fund_mk (st := s_is_price) l_is_price q_is_price k_is_price (.inl rfl)
  a_is_prices := f_is_prices
  fd_is_prices := _
  g_is_prices := PySem.W.mg_of X G c_is_prices
  F_is_prices := fund_mk (st := s_is_prices) l_is_prices q_is_prices k_is_prices (.inl rfl)
  a_tiers_of := f_tiers_of
  fd_tiers_of := _
  g_tiers_of := PySem.W.mg_of X G c_tiers_of
  F_tiers_of := fund_mk (st := s_tiers_of) l_tiers_of q_tiers_of k_tiers_of (.inl rfl)
  a_cost := f_cost
  fd_cost := _
  g_cost := PySem.W.mg_of X G c_cost
  F_cost := fund_mk (st := s_cost) l_cost q_cost k_cost (.inr ⟨D_cost, D1_cost, fun q hq => by
    simp only [List.mem_cons, List.not_mem_nil, or_false] at hq
    rcases hq with rfl
    · exact ⟨_, D2_cost_ahead, ⟨_, rfl⟩⟩⟩)
  a_period_of := f_period_of
  fd_period_of := _
  g_period_of := PySem.W.mg_of X G c_period_of
  F_period_of := fund_mk (st := s_period_of) l_period_of q_period_of k_period_of (.inr ⟨D_period_of, D1_period_of, fun q hq => by
    simp only [List.mem_cons, List.not_mem_nil, or_false] at hq
    rcases hq with rfl
    · exact ⟨_, D2_period_of_calendar, rfl⟩⟩)
  a_noted := f_noted
  fd_noted := _
  g_noted := PySem.W.mg_of X G c_noted
  F_noted := fund_mk (st := s_noted) l_noted q_noted k_noted (.inl rfl)
  a_units_on := f_units_on
  fd_units_on := _
  g_units_on := PySem.W.mg_of X G c_units_on
  F_units_on := fund_mk (st := s_units_on) l_units_on q_units_on k_units_on (.inl rfl)
  a_units_ahead := f_units_ahead
  fd_units_ahead := _
  g_units_ahead := PySem.W.mg_of X G c_units_ahead
  F_units_ahead := fund_mk (st := s_units_ahead) l_units_ahead q_units_ahead k_units_ahead (.inl rfl)
  a_coins_on := f_coins_on
  fd_coins_on := _
  g_coins_on := PySem.W.mg_of X G c_coins_on
  F_coins_on := fund_mk (st := s_coins_on) l_coins_on q_coins_on k_coins_on (.inl rfl)
  a_bill_of := f_bill_of
  fd_bill_of := _
  g_bill_of := PySem.W.mg_of X G c_bill_of
  F_bill_of := fund_mk (st := s_bill_of) l_bill_of q_bill_of k_bill_of (.inr ⟨D_bill_of, D1_bill_of, fun q hq => by
    simp only [List.mem_cons, List.not_mem_nil, or_false] at hq
    rcases hq with rfl
    · exact ⟨_, D2_bill_of_calendar, rfl⟩⟩)
  a_bills_until := f_bills_until
  fd_bills_until := _
  g_bills_until := PySem.W.mg_of X G c_bills_until
  F_bills_until := fund_mk (st := s_bills_until) l_bills_until q_bills_until k_bills_until (.inr ⟨D_bills_until, D1_bills_until, fun q hq => by
    simp only [List.mem_cons, List.not_mem_nil, or_false] at hq
    rcases hq with rfl
    · exact ⟨_, D2_bills_until_calendar, rfl⟩⟩)
  a_law_tap := f_law_tap
  fd_law_tap := _
  g_law_tap := PySem.W.mg_of X G c_law_tap
  F_law_tap := fund_mk (st := s_law_tap) l_law_tap q_law_tap k_law_tap (.inl rfl)
  a_law_pick := f_law_pick
  fd_law_pick := _
  g_law_pick := PySem.W.mg_of X G c_law_pick
  F_law_pick := fund_mk (st := s_law_pick) l_law_pick q_law_pick k_law_pick (.inl rfl)
  a_law_great := f_law_great
  fd_law_great := _
  g_law_great := PySem.W.mg_of X G c_law_great
  F_law_great := fund_mk (st := s_law_great) l_law_great q_law_great k_law_great (.inl rfl)
  a_law_tiers := f_law_tiers
  fd_law_tiers := _
  g_law_tiers := PySem.W.mg_of X G c_law_tiers
  F_law_tiers := fund_mk (st := s_law_tiers) l_law_tiers q_law_tiers k_law_tiers (.inl rfl)
  a_law_finer := f_law_finer
  fd_law_finer := _
  g_law_finer := PySem.W.mg_of X G c_law_finer
  F_law_finer := fund_mk (st := s_law_finer) l_law_finer q_law_finer k_law_finer (.inl rfl)
  a_law_parted_right := f_law_parted_right
  fd_law_parted_right := _
  g_law_parted_right := PySem.W.mg_of X G c_law_parted_right
  F_law_parted_right := fund_mk (st := s_law_parted_right) l_law_parted_right q_law_parted_right k_law_parted_right (.inl rfl)
  a_law_days_right := f_law_days_right
  fd_law_days_right := _
  g_law_days_right := PySem.W.mg_of X G c_law_days_right
  F_law_days_right := fund_mk (st := s_law_days_right) l_law_days_right q_law_days_right k_law_days_right (.inl rfl)
  a_law := f_law
  fd_law := _
  g_law := PySem.W.mg_of X G c_law
  F_law := fund_mk (st := s_law) l_law q_law k_law (.inl rfl)
theorem bt_law {K : PySem.W.Frag} {mg : Str → Option Value} {w : World} (T : Txt K mg w) (s : Shared) (u : Value) : BindsTo s T.fd_law ⟨[u], []⟩ [("_law_script", u)] :=
  T.F_law.bindsA (ps := ["_law_script"]) (fun _ _ _ _ _ _ us hl => match us, hl with | [_], _ => rfl) s [u] rfl
theorem row_end {l : PySem.W.OpenLaw} {q : Program} {loose : List Str} {XP : (Str → Option Value) → Heap → Prop} {YP : World → Heap → Prop} {d : DefRec} {K : Params → PySem.W.Frag} (hn : l.most = some 63) (hdf : d.params.defaults = [])
    (hy : ∀ (w : World) (h : Heap), YP w h → (K w.params).In h) (hd : d.name = "law")
    (T : ∀ (w : World) (mg : Str → Option Value) (h : Heap), (K w.params).In h → h.Ns mainGlobals mg → Nonempty (Txt (K w.params) mg w)) :
    PySem.W.WalkO q loose XP YP l.row.toRowW d [] (fun f vs => PySem.call f vs) := by
  refine g_walk (n := 63) (k := 7) (x := "_law_script") (CX := fun _ => CX0) (sp := fun w => spOf (K w.params) 1 240200 m_law) hn (by decide) hdf ⟨rfl, by decide, by decide⟩ hy ?_ (fun w H a ns hl hO hS => law_want (by decide) law_true H a ns hl hO hS) fun _ _ _ _ _ z => z
  intro w mg fa h X G hmg
  obtain ⟨t⟩ := T w mg h X G
  rw [hd, t.g_law] at hmg
  cases hmg
  exact ⟨t.fd_law, bt_law t, fun base _ _ => ok_law t⟩
end Own
open PySem PySem.W PyProof.Rows
set_option maxRecDepth 100000 in
set_option maxHeartbeats 0 in
theorem PySem.Challenge.cw_tenanthall_k57_whole_costs_parted_holds : PySem.Challenge.rw_tenanthall_k57_whole_costs_parted.Holds := by
  w_on; o_law; k_head; (case hw => w_witness2)
  k_fill
  refine Own.row_end (l := PySem.Challenge.rw_tenanthall_k57_whole_costs_parted) rfl rfl (fun w h Y => PySem.W.kIn_of Y) rfl ?T
  case T =>
    intro w mg h KX G
    refine' ⟨Own.txt_mk KX G ?c_KINDS ?l_KINDS ?k_KINDS ?nd_KINDS ?d_KINDS ?c_MOST_TIERS ?c_CALENDAR ?l_CALENDAR ?k_CALENDAR ?nd_CALENDAR ?d_CALENDAR ?b_all ?b_bool ?b_dict ?b_enumerate ?b_int ?b_isinstance ?b_len ?b_list ?b_max ?b_min ?b_range ?b_sorted ?b_sum ?b_tuple ?c_is_whole ?l_is_whole ?q_is_whole ?k_is_whole ?c_is_number ?l_is_number ?q_is_number ?k_is_number ?c_is_tuple_of ?l_is_tuple_of ?q_is_tuple_of ?k_is_tuple_of ?c_are_rising ?l_are_rising ?q_are_rising ?k_are_rising ?c_is_kind ?l_is_kind ?q_is_kind ?k_is_kind ?c_is_tier ?l_is_tier ?q_is_tier ?k_is_tier ?c_are_tiers ?l_are_tiers ?q_are_tiers ?k_are_tiers ?c_is_price ?l_is_price ?q_is_price ?k_is_price ?c_is_prices ?l_is_prices ?q_is_prices ?k_is_prices ?c_tiers_of ?l_tiers_of ?q_tiers_of ?k_tiers_of ?c_cost ?l_cost ?q_cost ?k_cost ?D1_cost ?D2_cost_ahead ?c_period_of ?l_period_of ?q_period_of ?k_period_of ?D1_period_of ?D2_period_of_calendar ?c_noted ?l_noted ?q_noted ?k_noted ?c_units_on ?l_units_on ?q_units_on ?k_units_on ?c_units_ahead ?l_units_ahead ?q_units_ahead ?k_units_ahead ?c_coins_on ?l_coins_on ?q_coins_on ?k_coins_on ?c_bill_of ?l_bill_of ?q_bill_of ?k_bill_of ?D1_bill_of ?D2_bill_of_calendar ?c_bills_until ?l_bills_until ?q_bills_until ?k_bills_until ?D1_bills_until ?D2_bills_until_calendar ?c_law_tap ?l_law_tap ?q_law_tap ?k_law_tap ?c_law_pick ?l_law_pick ?q_law_pick ?k_law_pick ?c_law_great ?l_law_great ?q_law_great ?k_law_great ?c_law_tiers ?l_law_tiers ?q_law_tiers ?k_law_tiers ?c_law_finer ?l_law_finer ?q_law_finer ?k_law_finer ?c_law_parted_right ?l_law_parted_right ?q_law_parted_right ?k_law_parted_right ?c_law_days_right ?l_law_days_right ?q_law_days_right ?k_law_days_right ?c_law ?l_law ?q_law ?k_law⟩
    (case c_KINDS => first | k_is | rfl)
    (case l_KINDS => first | k_is | rfl)
    (case k_KINDS => first | k_is | rfl)
    (case nd_KINDS => first | k_is | rfl)
    (case d_KINDS => first | k_is | rfl)
    (case c_MOST_TIERS => first | k_is | rfl)
    (case c_CALENDAR => first | k_is | rfl)
    (case l_CALENDAR => first | k_is | rfl)
    (case k_CALENDAR => first | k_is | rfl)
    (case nd_CALENDAR => first | k_is | rfl)
    (case d_CALENDAR => first | k_is | rfl)
    (case b_all => first | k_is | rfl)
    (case b_bool => first | k_is | rfl)
    (case b_dict => first | k_is | rfl)
    (case b_enumerate => first | k_is | rfl)
    (case b_int => first | k_is | rfl)
    (case b_isinstance => first | k_is | rfl)
    (case b_len => first | k_is | rfl)
    (case b_list => first | k_is | rfl)
    (case b_max => first | k_is | rfl)
    (case b_min => first | k_is | rfl)
    (case b_range => first | k_is | rfl)
    (case b_sorted => first | k_is | rfl)
    (case b_sum => first | k_is | rfl)
    (case b_tuple => first | k_is | rfl)
    (case c_is_whole => first | k_is | rfl)
    (case l_is_whole => first | k_is | rfl)
    (case q_is_whole => first | k_is | rfl)
    (case k_is_whole => first | k_is | rfl)
    (case c_is_number => first | k_is | rfl)
    (case l_is_number => first | k_is | rfl)
    (case q_is_number => first | k_is | rfl)
    (case k_is_number => first | k_is | rfl)
    (case c_is_tuple_of => first | k_is | rfl)
    (case l_is_tuple_of => first | k_is | rfl)
    (case q_is_tuple_of => first | k_is | rfl)
    (case k_is_tuple_of => first | k_is | rfl)
    (case c_are_rising => first | k_is | rfl)
    (case l_are_rising => first | k_is | rfl)
    (case q_are_rising => first | k_is | rfl)
    (case k_are_rising => first | k_is | rfl)
    (case c_is_kind => first | k_is | rfl)
    (case l_is_kind => first | k_is | rfl)
    (case q_is_kind => first | k_is | rfl)
    (case k_is_kind => first | k_is | rfl)
    (case c_is_tier => first | k_is | rfl)
    (case l_is_tier => first | k_is | rfl)
    (case q_is_tier => first | k_is | rfl)
    (case k_is_tier => first | k_is | rfl)
    (case c_are_tiers => first | k_is | rfl)
    (case l_are_tiers => first | k_is | rfl)
    (case q_are_tiers => first | k_is | rfl)
    (case k_are_tiers => first | k_is | rfl)
    (case c_is_price => first | k_is | rfl)
    (case l_is_price => first | k_is | rfl)
    (case q_is_price => first | k_is | rfl)
    (case k_is_price => first | k_is | rfl)
    (case c_is_prices => first | k_is | rfl)
    (case l_is_prices => first | k_is | rfl)
    (case q_is_prices => first | k_is | rfl)
    (case k_is_prices => first | k_is | rfl)
    (case c_tiers_of => first | k_is | rfl)
    (case l_tiers_of => first | k_is | rfl)
    (case q_tiers_of => first | k_is | rfl)
    (case k_tiers_of => first | k_is | rfl)
    (case c_cost => first | k_is | rfl)
    (case l_cost => first | k_is | rfl)
    (case q_cost => first | k_is | rfl)
    (case k_cost => first | k_is | rfl)
    (case D1_cost => first | k_is | rfl)
    (case D2_cost_ahead => first | k_is | rfl)
    (case c_period_of => first | k_is | rfl)
    (case l_period_of => first | k_is | rfl)
    (case q_period_of => first | k_is | rfl)
    (case k_period_of => first | k_is | rfl)
    (case D1_period_of => first | k_is | rfl)
    (case D2_period_of_calendar => first | k_is | rfl)
    (case c_noted => first | k_is | rfl)
    (case l_noted => first | k_is | rfl)
    (case q_noted => first | k_is | rfl)
    (case k_noted => first | k_is | rfl)
    (case c_units_on => first | k_is | rfl)
    (case l_units_on => first | k_is | rfl)
    (case q_units_on => first | k_is | rfl)
    (case k_units_on => first | k_is | rfl)
    (case c_units_ahead => first | k_is | rfl)
    (case l_units_ahead => first | k_is | rfl)
    (case q_units_ahead => first | k_is | rfl)
    (case k_units_ahead => first | k_is | rfl)
    (case c_coins_on => first | k_is | rfl)
    (case l_coins_on => first | k_is | rfl)
    (case q_coins_on => first | k_is | rfl)
    (case k_coins_on => first | k_is | rfl)
    (case c_bill_of => first | k_is | rfl)
    (case l_bill_of => first | k_is | rfl)
    (case q_bill_of => first | k_is | rfl)
    (case k_bill_of => first | k_is | rfl)
    (case D1_bill_of => first | k_is | rfl)
    (case D2_bill_of_calendar => first | k_is | rfl)
    (case c_bills_until => first | k_is | rfl)
    (case l_bills_until => first | k_is | rfl)
    (case q_bills_until => first | k_is | rfl)
    (case k_bills_until => first | k_is | rfl)
    (case D1_bills_until => first | k_is | rfl)
    (case D2_bills_until_calendar => first | k_is | rfl)
    (case c_law_tap => first | k_is | rfl)
    (case l_law_tap => first | k_is | rfl)
    (case q_law_tap => first | k_is | rfl)
    (case k_law_tap => first | k_is | rfl)
    (case c_law_pick => first | k_is | rfl)
    (case l_law_pick => first | k_is | rfl)
    (case q_law_pick => first | k_is | rfl)
    (case k_law_pick => first | k_is | rfl)
    (case c_law_great => first | k_is | rfl)
    (case l_law_great => first | k_is | rfl)
    (case q_law_great => first | k_is | rfl)
    (case k_law_great => first | k_is | rfl)
    (case c_law_tiers => first | k_is | rfl)
    (case l_law_tiers => first | k_is | rfl)
    (case q_law_tiers => first | k_is | rfl)
    (case k_law_tiers => first | k_is | rfl)
    (case c_law_finer => first | k_is | rfl)
    (case l_law_finer => first | k_is | rfl)
    (case q_law_finer => first | k_is | rfl)
    (case k_law_finer => first | k_is | rfl)
    (case c_law_parted_right => first | k_is | rfl)
    (case l_law_parted_right => first | k_is | rfl)
    (case q_law_parted_right => first | k_is | rfl)
    (case k_law_parted_right => first | k_is | rfl)
    (case c_law_days_right => first | k_is | rfl)
    (case l_law_days_right => first | k_is | rfl)
    (case q_law_days_right => first | k_is | rfl)
    (case k_law_days_right => first | k_is | rfl)
    (case c_law => first | k_is | rfl)
    (case l_law => first | k_is | rfl)
    (case q_law => first | k_is | rfl)
    (case k_law => first | k_is | rfl)
