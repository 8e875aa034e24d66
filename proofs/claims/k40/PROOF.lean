import PyProof.Rows.All
import Wide.All
import OpenK.AllK
import Wide.FinOn
import HandS.ForMost
import HandS.Gcd
import HandS.Wide
import HandS.Defaults
import HandS.IsInst
import HandS.Deep
import PyProof.ReprReads
import HandS.TupAny
import HandS.TupMul
import HandS.Conv
import PyProof.Rows.LemmasIntBool
import PyProof.ReprRoads
import PyProof.StrLawsRepr
import PyProof.Rows.RegStrFacts
import HandS.Style
import PyProof.Rows.StrMul
import HandS.Dict
import KE.KDictPairs
import HandS.More
import PyProof.Rows.ReprOcc
import HandS.NoneIn
import HandS.Text
import HandS.TupLe
import HandS.CallLocal
import HandS.Zip
import KE.SortData
import HandS.RaiseMore
import HandS.DictTup
import KE.GoesEnum
import PyProof.P3In
import HandS.WordsDict
import HandS.SetFor
import HandS.Strs
import HandS.MakeKwOnly
import KE.KTupSum
import HandS.SortKw
import KE.KMinKey
import PySem.Challenge.RW_tenanthall_k40_moves_broken
set_option Elab.async false
set_option linter.all false
set_option maxRecDepth 100000
namespace VG
open PySem PySem.Spec PyProof.Rows L2

/-- nothing is being shown around -/
def Still (A : Around) : Prop := A.guards = some []
theorem Still.deep {A : Around} (g : Still A) (e : Env) : Still (A.deeper e) := g

section
variable {P : Program} {w : World} {K : PySem.W.Frag} {mg : Str → Option Value} {base : Heap}

/-- the promise of the def at f, called where nothing is being shown -/
structure GOk (P : Program) (w : World) (K : PySem.W.Frag) (mg : Str → Option Value) (base : Heap) (CX : CXT) (k : Nat) (f : Addr) (fd : FuncData) (ps : List Str) (sp : Sp) : Prop where
  len : ∀ vs H Q E, sp vs H Q E → vs.length = ps.length
  go : ∀ (A : Around), Room k A → Still A → ∀ (outer : List Env) (s : Shared) (H : Hp),
    Env0 P w K mg base A outer s H → ∀ (args : Args) (us : List Value) (vs : List V) (Q : VK) (E : XK),
    BindsTo s fd args (ps.zip us) → Vals vs us → sp vs H Q E →
    codeAny (model P w) A (.call (.ref f) args) (CR CX outer P w H s Q E) s

theorem GOk.mono {CX : CXT} {j k : Nat} {f : Addr} {fd : FuncData} {ps : List Str} {sp : Sp}
    (F : GOk P w K mg base CX j f fd ps sp) (h : j ≤ k) : GOk P w K mg base CX k f fd ps sp :=
  ⟨F.len, fun A hr => F.go A (hr.mono h)⟩

/-- from the body -/
theorem gok_of {CX : CXT} {k : Nat} {f : Addr} {nm qual : Str} {pr : Arguments} {body : List Stmt} {sc : Scope}
    {dV kV doc pm cdv ct oc : Value} {an od : Option Addr} {osl : Array (Option Value)} {N ps : List Str} {sp : Sp}
    (lk : K.lookup f = some ⟨oc, od, .func (PySem.W.fnOf nm qual pr body sc dV kV doc pm an cdv ct), osl⟩)
    (cd : PySem.W.codeIn K cdv qual = true) (S : FnScope N ps sc) (len : ∀ vs H Q E, sp vs H Q E → vs.length = ps.length)
    (hb : ∀ (A : Around), Still A → ∀ (outer : List Env) (s : Shared) (H : Hp) (vs : List V) (Q : VK) (E : XK),
      Room k (A.deeper (envOfC qual sc s.heap.objs.size f cdv)) → sp vs H Q E →
      ∃ t, PSs (cxOf CX P w K mg base N qual sc f cdv A outer s H E) body t ∧
        t ⟨fun _ H' => Q .non H', Q, fun _ _ => False, fun _ _ => False⟩ (start N vs) H) :
    GOk P w K mg base CX (k + 1) f (PySem.W.fnOf nm qual pr body sc dV kV doc pm an cdv ct) ps sp := by
  refine ⟨len, fun A hr gd outer s H e0 args us vs Q E bt rv ok => ?_⟩
  have lim := e0.mod.nolimit.keeps fun b o e => (e0.bs b o e).1
  have kin := e0.mod.kin.keeps fun b o e => (e0.bs b o e).1
  refine codeAny_call_function hr.depth (kin _ _ lk) rfl S.co S.gen rfl (PySem.W.codeRec_of kin cd) (bt _ _ _ _ ?_)
  refine wpAny_newFunctionEnv_cells S.kind ?_ ?_
  · intro y hy
    have par := S.par y.1 (List.of_mem_zip (a := y.1) (b := y.2) hy).1
    exact par.imp id fun z => ⟨z, PySem.W.cellsFrom_some _ _ _ (.inl z)⟩
  · intro env eq s1 ic
    subst eq
    refine ⟨lim.keeps ic.toInCall.keep, codeAny_func ?_⟩
    obtain ⟨t, ht, hq⟩ := hb A gd outer s H vs Q E (hr.deeper _) ok
    have I0 := inv_start (CX := CX) (E := E) (f := f) (cd := cdv) (qual := qual) (outer := outer) S hr.hd e0 (len _ _ _ _ ok) rv ic
    refine wpAny_mono (ht.run [] s1 _ H _ I0 hq) ?_ fun _ _ z => z
    intro fl s' hs
    have ending : ∀ (σ' : L2.St) (H' : Hp) (v : V) (u : Value), Inv (cxOf CX P w K mg base N qual sc f cdv A outer s H E) [] σ' H' s' →
        RelV v u → Q v H' → CE outer P w H s Q u s' := fun σ' H' v u J r q => ⟨v, H', J.os, J.bare, J.base, J.hok, r, q⟩
    match fl, hs with
    | .ret u, ⟨v, σ', H', J, r, q⟩ => exact ending σ' H' v u J r q
    | .next, ⟨σ', H', J, q⟩ => exact ending σ' H' .non .none J rfl q
    | .brk, ⟨_, _, _, q⟩ => exact q.elim
    | .cont, ⟨_, _, _, q⟩ => exact q.elim
end

section
variable {X : Cx} {CX : CXT} {k : Nat} {f : Addr} {fd : FuncData} {ps : List Str} {sp : Sp} {dvs : List V} {ds : List Value} {E : XK}
/-- it runs where a body calls it -/
theorem go_fn {pins : List (Addr × Obj)} {σ : L2.St} {H : Hp} {s : Shared} {Q : VK} {us all : List Value} {kw : List (Str × Value)} {vs : List V}
    (F : GOk X.prog X.w X.K X.mg X.base CX k f fd ps sp) (hr : Room k X.A) (gd : Still X.A)
    (bt : all.length = ps.length → BindsTo s fd ⟨us, kw⟩ (ps.zip all)) (hx : Passes CX X E)
    (I : Inv X pins σ H s) (r : Vals vs all) (h : sp vs H Q E) :
    wpAny (model X.prog X.w) X.A (call (.ref f) us kw) (EP X pins σ Q) X.xe s := by
  have hl : all.length = ps.length := r.length.symm.trans (F.len _ _ _ _ h)
  refine wpAny_call (codeAny_mono (F.go X.A hr gd X.stack s H I.env0 ⟨us, kw⟩ all vs Q E (bt hl) r h) ?_)
  intro res s' hq
  match res, hq with
  | .error e, hq => exact hx pins σ H s e s' I hq
  | .ok (.ret u), hq => exact I.after hq
  | .ok .next, hq => exact hq.elim
  | .ok .brk, hq => exact hq.elim
  | .ok .cont, hq => exact hq.elim

variable {x : Str} {p pos : Pos} {e : Expr} {es : List Expr} {t tk : TA} {kws : List Keyword} {ks : List Str}
/-- f(e, ..) -/
theorem gp_call (F : GOk X.prog X.w X.K X.mg X.base CX k f fd ps sp) (hr : Room k X.A) (gd : Still X.A) (hg : Gl X x) (hm : X.mg x = some (.ref f))
    (hk : PySem.W.keepIn X.K (.ref f) = true) (hb : Binds X.K fd ps ds) (hd : Vals dvs ds) (hx : Passes CX X E) (ha : PA X (e :: es) t)
    (hdb : (x == ("__debug__" : Str)) = false := by decide) (he : starEach (e :: es) X.env = (false, eval e X.env) :: starEach es X.env := by rfl)
    (hpl : (backTo pos (starEach es X.env)).any (·.1) = false := by rfl) :
    PE X (.Call (.Name x p) (e :: es) [] pos) (tCall sp dvs E t) :=
  ⟨fun pins s σ H Q I h => wpAny_Call_Name_kw (ld_glob I hg hm
    (PySem.W.callWith_K (h₀ := X.base) I.ok.mod.kin hk (thn (ha.run pos pins s σ H _ I h) fun us s1 q => by
      obtain ⟨vs, H1, I1, r, q⟩ := q
      exact ⟨I1.kIn, go_fn (kw := []) F hr gd (hb s1 us I1.kIn) hx I1 (r.append hd) q⟩) he hpl) hdb)⟩
theorem gp_call0 (F : GOk X.prog X.w X.K X.mg X.base CX k f fd ps sp) (hr : Room k X.A) (gd : Still X.A) (hg : Gl X x) (hm : X.mg x = some (.ref f))
    (hk : PySem.W.keepIn X.K (.ref f) = true) (hb : Binds X.K fd ps ds) (hd : Vals dvs ds) (hx : Passes CX X E)
    (hdb : (x == ("__debug__" : Str)) = false := by decide) : PE X (.Call (.Name x p) [] [] pos) (tCall sp dvs E tNil) :=
  ⟨fun pins s σ H Q I h => wpAny_Call_Name_kw (ld_glob I hg hm
    (PySem.W.callWith_K0 I.kIn hk (go_fn (us := []) (kw := []) (vs := dvs) F hr gd (hb s [] I.kIn) hx I hd h)) hdb)⟩
/-- f(e, .., k = v, ..), by a binding of keywords -/
theorem gp_callK {n : Nat} {g : List Value → List Value → List Value} {gV : List V → List V → List V}
    (F : GOk X.prog X.w X.K X.mg X.base CX k f fd ps sp) (hr : Room k X.A) (gd : Still X.A) (hg : Gl X x) (hm : X.mg x = some (.ref f))
    (hk : PySem.W.keepIn X.K (.ref f) = true) (hb : KBn X.K fd ps n ks g gV) (hx : Passes CX X E)
    (ha : PA X (e :: es) t) (hkw : PK X kws tk)
    (hall : (backToKw pos (keywordEach kws X.env)).all (·.1.isSome) = true := by rfl)
    (hks : (backToKw pos (keywordEach kws X.env)).filterMap (·.1) = ks := by rfl)
    (hdb : (x == ("__debug__" : Str)) = false := by decide) (he : starEach (e :: es) X.env = (false, eval e X.env) :: starEach es X.env := by rfl)
    (hpl : ((backTo pos (starEach (e :: es) X.env)).any (·.1) || (backToKw pos (keywordEach kws X.env)).any (·.1.isNone)) = false := by rfl) :
    PE X (.Call (.Name x p) (e :: es) kws pos) (tCallN n ks.length sp gV E t tk) :=
  ⟨fun pins s σ H Q I h => wpAny_Call_Name_kw (ld_glob I hg hm
    (PySem.W.callWith_KW (h₀ := X.base) I.ok.mod.kin hk hall (thn (ha.run pos pins s σ H _ I h) fun us s1 q => by
      obtain ⟨vs, H1, I1, r, q⟩ := q
      refine thn (hkw.run pos pins s1 σ H1 _ I1 q) fun ws s2 q2 => ?_
      obtain ⟨zs, H2, I2, rz, l1, l2, q2⟩ := q2
      refine ⟨I2.kIn, ?_⟩
      rw [hks]
      exact go_fn F hr gd (fun _ => hb.to s2 us ws I2.kIn (r.length.symm.trans l1) (rz.length.symm.trans l2)) hx I2 (hb.rel r rz) q2) hpl he) hdb)⟩
end

section
variable {X : Cx} {CX : CXT} {k : Nat} {f : Addr} {fd : FuncData} {ps : List Str} {sp : Sp} {E : XK} {x : Str} {p pos : Pos} {tk : TA} {kws : List Keyword} {ks : List Str}
/-- f(k = v, ..) -/
theorem gp_callK0 {g : List Value → List Value → List Value} {gV : List V → List V → List V}
    (F : GOk X.prog X.w X.K X.mg X.base CX k f fd ps sp) (hr : Room k X.A) (gd : Still X.A) (hg : Gl X x) (hm : X.mg x = some (.ref f))
    (hk : PySem.W.keepIn X.K (.ref f) = true) (hb : KBn X.K fd ps 0 ks g gV) (hx : Passes CX X E) (hkw : PK X kws tk)
    (hall : (backToKw pos (keywordEach kws X.env)).all (·.1.isSome) = true := by rfl)
    (hks : (backToKw pos (keywordEach kws X.env)).filterMap (·.1) = ks := by rfl)
    (hdb : (x == ("__debug__" : Str)) = false := by decide)
    (hpl : ((backTo pos (starEach [] X.env)).any (·.1) || (backToKw pos (keywordEach kws X.env)).any (·.1.isNone)) = false := by rfl) :
    PE X (.Call (.Name x p) [] kws pos) (tCallN 0 ks.length sp gV E tNil tk) :=
  ⟨fun pins s σ H Q I h => wpAny_Call_Name_kw (ld_glob I hg hm
    (PySem.W.callWith_KW0 (h₀ := X.base) I.ok.mod.kin hk hall (thn (hkw.run pos pins s σ H _ I h) fun ws s2 q2 => by
      obtain ⟨zs, H2, I2, rz, l1, l2, q2⟩ := q2
      refine ⟨I2.kIn, ?_⟩
      rw [hks]
      exact go_fn (us := []) F hr gd (fun _ => hb.to s2 [] ws I2.kIn rfl (rz.length.symm.trans l2)) hx I2 (hb.rel .nil rz) q2) hpl) hdb)⟩
end

/-! ### the law's own call -/
section
variable {P : Program} {w : World} {K : PySem.W.Frag} {mg mb : Str → Option Value} {CX : CXT} {k : Nat} {fa a : Addr} {fd : FuncData} {x : Str} {sp : Sp} {s₁ : Shared} {vs : List Value} {ns : List Int}
/-- an abstract heap of the script alone, or of nothing -/
structure Alone (K : PySem.W.Frag) (P : Program) (w : World) (s₁ : Shared) (a : Addr) (ns : List Int) (H : Hp) : Prop where
  only : Only H
  sq : SqL K H a (ns.map V.int)
  ok : HOk P w H s₁.heap
  at_ : ∀ b, H b ≠ none → b = a
  apart : H a ≠ none → K.lookup a = none

theorem alone_run (kx : K.In s₁.heap) (h1 : s₁.heap.Ns mainGlobals mg) (h2 : s₁.heap.Ns builtinsNs mb)
    (h3 : ∀ x : Str, x ≠ "__name__" → mb x = bootBuiltins x) (h4 : s₁.heap.NoLimit) (h5 : s₁.gens = #[])
    (h6 : s₁.heap.get? a = some { cls := .type "list", data := .seq vs.toArray }) (hr : Room k callerA)
    (F : ∀ base : Heap, K.In base → base.Ns mainGlobals mg → GOk P w K mg base CX k fa fd [x] sp)
    (bt : ∀ (s : Shared) (u : Value), BindsTo s fd ⟨[u], []⟩ [(x, u)])
    (want : ∀ H : Hp, Only H → SqL K H a (ns.map V.int) → sp [.ref a] H (fun v _ => v = .bl true) fun _ _ _ => False)
    (never : ∀ H e s', CX [] H s₁ (fun _ _ _ => False) e s' → False) {H : Hp} (L : Alone K P w s₁ a ns H) :
    codeAny (model P w) callerA (.call (.ref fa) ⟨[.ref a], []⟩) (fun r s' => r = .ok (.ret (.bool true)) ∧ OldK s₁.heap s'.heap ∧ s'.os = s₁.os ∧ AllBare s'.gens) s₁ := by
  have free_of : ∀ {b : Addr} {o : Obj} {es : Array DictEntry} {ep : Nat}, s₁.heap.get? b = some o → o.data = .dict es ep → H b = none := by
    intro b o es ep e d
    rcases hb : H b with _ | u
    · rfl
    · have z := L.at_ b (by rw [hb]; exact fun q => nomatch q)
      rw [z, h6] at e
      have e2 := Option.some.inj e
      rw [← e2] at d
      exact nomatch d
  have ns_of : ∀ {b : Addr} {m : Str → Option Value}, s₁.heap.Ns b m → (hidT s₁.heap H).Ns b m := by
    intro b m q
    obtain ⟨o, es, ep, e, d, r⟩ := q
    exact ⟨o, es, ep, hidT_get e (free_of e d), d, r⟩
  have kin : K.In (hidT s₁.heap H) := by
    intro b o e
    refine hidT_get (kx b o e) ?_
    rcases hb : H b with _ | u
    · rfl
    · have ne : H b ≠ none := by rw [hb]; exact fun q => nomatch q
      have z := L.at_ b ne
      rw [z] at e ne
      rw [L.apart ne] at e
      exact nomatch e
  have md : Mod K mg (hidT s₁.heap H) := by
    refine ⟨kin, ns_of h1, ⟨mb, ns_of h2, h3⟩, ?_⟩
    obtain ⟨mc, q1, q2⟩ := h4
    exact ⟨mc, ns_of q1, q2⟩
  have e0 : Env0 P w K mg (hidT s₁.heap H) callerA [] s₁ H :=
    ⟨rfl, md, fun b o e => of_hidT e, Nat.le_of_eq (hidT_size _ _), trivial, (fun b hb => by cases hb), L.ok, .of_eq h5⟩
  refine codeAny_mono ((F _ kin (ns_of h1)).go callerA hr rfl [] s₁ H e0 ⟨[.ref a], []⟩ [.ref a] [.ref a] _ _ (bt s₁ (.ref a)) (.cons rfl .nil) (want H L.only L.sq)) ?_
  intro r s' q
  match r, q with
  | .error e, q => exact (never H e s' q).elim
  | .ok .next, q => exact q.elim
  | .ok .brk, q => exact q.elim
  | .ok .cont, q => exact q.elim
  | .ok (.ret u), ⟨v, H', os, br, un, ok', r', q'⟩ =>
    have q2 : v = .bl true := q'
    rw [q2] at r'
    have q3 : u = Value.bool true := r'
    rw [q3]
    refine ⟨rfl, OldK.of_keep ?_, os, br⟩
    intro b o e
    rcases hb : H b with _ | y
    · exact un.keep b o e hb (fun z => by cases z) (fun z => by cases z)
    · rcases L.only b with z | ⟨ob, xs, z⟩
      · rw [z] at hb; exact nomatch hb
      · obtain ⟨e1, _⟩ := L.ok b _ z
        obtain ⟨e2, _⟩ := ok' b _ (un.frzs b ob _ z)
        rw [e] at e1
        rw [e2, Option.some.inj e1]

theorem law_run (kx : K.In s₁.heap) (h1 : s₁.heap.Ns mainGlobals mg) (h2 : s₁.heap.Ns builtinsNs mb)
    (h3 : ∀ x : Str, x ≠ "__name__" → mb x = bootBuiltins x) (h4 : s₁.heap.NoLimit) (h5 : s₁.gens = #[])
    (h6 : s₁.heap.get? a = some { cls := .type "list", data := .seq vs.toArray }) (hi : IntsAre vs ns) (hl : ns.length ≤ sizeLine) (hr : Room k callerA)
    (F : ∀ base : Heap, K.In base → base.Ns mainGlobals mg → GOk P w K mg base CX k fa fd [x] sp)
    (bt : ∀ (s : Shared) (u : Value), BindsTo s fd ⟨[u], []⟩ [(x, u)])
    (want : ∀ H : Hp, Only H → SqL K H a (ns.map V.int) → sp [.ref a] H (fun v _ => v = .bl true) fun _ _ _ => False)
    (never : ∀ H e s', CX [] H s₁ (fun _ _ _ => False) e s' → False) :
    codeAny (model P w) callerA (.call (.ref fa) ⟨[.ref a], []⟩) (fun r s' => r = .ok (.ret (.bool true)) ∧ OldK s₁.heap s'.heap ∧ s'.os = s₁.os ∧ AllBare s'.gens) s₁ := by
  have rv := vals_of_ints hi
  have hlen := hi.length
  rcases hk : K.lookup a with _ | o
  · refine alone_run kx h1 h2 h3 h4 h5 h6 hr F bt want never (ns := ns) (H := fun b => if b = a then some (.frz { cls := .type "list", data := .seq vs.toArray } (.lst (ns.map V.int))) else none) ⟨?_, ?_, ?_, ?_, fun _ => hk⟩
    · intro b
      by_cases z : b = a
      · exact .inr ⟨_, _, if_pos z⟩
      · exact .inl (if_neg z)
    · exact .inl (.inr ⟨{ cls := .type "list", data := .seq vs.toArray }, if_pos rfl⟩)
    · intro b u e
      by_cases z : b = a
      · have e := (if_pos z).symm.trans e
        rw [← Option.some.inj e, z]
        exact ⟨h6, by rw [List.length_map]; exact hl, vs, _, rv, h6⟩
      · have e := (if_neg z).symm.trans e
        exact nomatch e
    · intro b e
      by_cases z : b = a
      · exact z
      · exact absurd (if_neg z) e
  · have e := kx a o hk
    rw [h6] at e
    have e := Option.some.inj e
    subst e
    refine alone_run kx h1 h2 h3 h4 h5 h6 hr F bt want never (ns := ns) (H := fun _ => none) ⟨fun _ => .inl rfl, ?_, (fun b u e => nomatch e), (fun b e => absurd rfl e), fun e => absurd rfl e⟩
    refine .inr ⟨_, vs.toArray, _, hk, rfl, rfl, rfl, ?_, ?_⟩
    · rw [List.size_toArray, hlen]; exact hl
    · rw [List.toList_toArray]; exact rv
end

/-- the end of a row: from the law's promise -/
theorem g_walk {l : PySem.W.OpenLaw} {n k : Nat} {q : Program} {loose : List Str} {XP : (Str → Option Value) → Heap → Prop} {YP : World → Heap → Prop} {d : DefRec} {K : Params → PySem.W.Frag} {CX : World → CXT} {sp : World → Sp} {x : Str}
    (h1 : l.most = some n) (h2 : n ≤ sizeLine) (h3 : d.params.defaults = []) (hr : Room k callerA)
    (hy : ∀ (w : World) (h : Heap), YP w h → (K w.params).In h)
    (F : ∀ (w : World) (mg : Str → Option Value) (fa : Addr) (h : Heap), (K w.params).In h → h.Ns mainGlobals mg → mg d.name = some (.ref fa) →
      ∃ fd : FuncData, (∀ (s : Shared) (u : Value), BindsTo s fd ⟨[u], []⟩ [(x, u)]) ∧
        (∀ base : Heap, (K w.params).In base → base.Ns mainGlobals mg → GOk l.prog w (K w.params) mg base (CX w) k fa fd [x] (sp w)))
    (want : ∀ (w : World) (H : Hp) (a : Addr) (ns : List Int), ns.length ≤ n → Only H → SqL (K w.params) H a (ns.map V.int) →
      sp w [.ref a] H (fun v _ => v = .bl true) (fun _ _ _ => False))
    (never : ∀ (w : World) (H : Hp) (s : Shared) (e : Value) (s' : Shared), CX w [] H s (fun _ _ _ => False) e s' → False) :
    PySem.W.WalkO q loose XP YP l.row.toRowW d [] (fun f vs => PySem.call f vs) := by
  refine Att.attach_call h1 h3 ?_
  intro w s₀ s₁ mg mb fa o pm cd doc a vs ns G Y _ _ _ hmg hob hin hlen hgen
  obtain ⟨fd, bt, hF⟩ := F w mg fa _ (hy w _ Y) G.T.g hmg
  exact law_run (hy w _ Y) G.T.g G.T.b G.T.builtins G.T.nolimit hgen hob hin (Nat.le_trans hlen h2) hr hF bt
    (fun H hO hS => want w H a ns hlen hO hS) (fun H e s' => never w H s₁ e s')
end VG
namespace VL
open PySem PySem.Spec PyProof.Rows L2 VG

/-- a tuple that is known to hold no dict -/
def SqN (K : PySem.W.Frag) (H : Hp) (a : Addr) (xs : List V) : Prop :=
  (∃ o : Obj, o.dict = none ∧ H a = some (.frz o (.tup xs))) ∨
    ∃ (o : Obj) (vz : Array Value) (n : Nat), K.lookup a = some o ∧ o.cls = .type "tuple" ∧ o.dict = none ∧ o.data = .seq vz n ∧ vz.size ≤ sizeLine ∧ Vals xs vz.toList
theorem SqN.t {K : PySem.W.Frag} {H : Hp} {a : Addr} {xs : List V} (h : SqN K H a xs) : SqT K H a xs := by
  rcases h with ⟨o, _, e⟩ | ⟨o, vz, n, h1, h2, _, h3, h4, h5⟩
  · exact .inl (.inr ⟨o, e⟩)
  · exact .inr ⟨o, vz, n, h1, h2, h3, h4, h5⟩
theorem SqN.new {K : PySem.W.Frag} {H : Hp} {a : Addr} {xs : List V} {o : Obj} (h : o.dict = none) : SqN K (upd H a (.frz o (.tup xs))) a xs := .inl ⟨o, h, upd_same⟩
section
variable {X : Cx} {pins : List (Addr × Obj)} {σ : L2.St} {H : Hp} {s : Shared} {a : Addr} {xs : List V}
theorem SqN.free (h : SqN X.K H a xs) (J : Inv X pins σ H s) : ∃ o, s.heap.get? a = some o ∧ o.cls = .type "tuple" ∧ o.dict = none := by
  obtain ⟨_, _, ⟨o, e, c, _⟩, _⟩ := J.tuple h.t
  rcases h with ⟨o', d, e'⟩ | ⟨o', _, _, k, _, d, _⟩
  · have := (J.hok a _ e').1
    rw [e] at this
    cases this
    exact ⟨o, e, c, d⟩
  · have := J.kIn a o' k
    rw [e] at this
    cases this
    exact ⟨o, e, c, d⟩
end
/-- a new tuple laid, its object known -/
abbrev tobj (vz : List Value) : Obj := { cls := .type "tuple", data := .seq vz.toArray }
section
variable {X : Cx} {pins : List (Addr × Obj)} {σ : L2.St} {H : Hp} {s : Shared} {xs : List V}
theorem lay_tup {vz : List Value} (J : Inv X pins σ H s) (z : xs.length ≤ sizeLine) (r : Vals xs vz) :
    Inv X pins σ (upd H s.heap.objs.size (.frz (tobj vz) (.tup xs))) { s with heap := s.heap.push (tobj vz) } :=
  J.laid (t' := s.toks) (fun _ _ w => Heap.get?_push_of_some _ w) (Nat.le_refl _) ⟨Heap.get?_push_size _ rfl, z, vz, r, ⟨_, Heap.get?_push_size _ rfl, rfl, _, rfl⟩⟩
/-- what a new tuple is to be told of -/
abbrev NewT (H : Hp) (xs : List V) (Q : VK) : Prop := ∀ (p : Addr) (o : Obj), o.dict = none → H p = none → Q (.ref p) (upd H p (.frz o (.tup xs)))
theorem ep_tup {vz : List Value} {Q : VK} (J : Inv X pins σ H s) (z : xs.length ≤ sizeLine) (r : Vals xs vz) (q : NewT H xs Q) :
    EP X pins σ Q (.ref s.heap.objs.size) { s with heap := s.heap.push (tobj vz) } :=
  ⟨.ref s.heap.objs.size, _, lay_tup J z r, rfl, q _ (tobj vz) rfl (J.hok.fresh (Nat.le_refl _))⟩
end
def tTupN (t : TA) : TE := fun σ H Q => t σ H fun xs H1 => xs.length ≤ sizeLine ∧ NewT H1 xs Q
section
variable {X : Cx} {e : Expr} {es : List Expr} {te : TE} {t : TA} {pos : Pos}
theorem pe_tupN {x1} (h : PA X es t) : PE X (.Tuple es x1 pos) (tTupN t) :=
  ⟨fun pins s σ H Q J hq => wpAny_Tuple_spliced (thn (h.run pos pins s σ H _ J hq) fun us s1 ⟨_, _, J1, r, z, q⟩ => ⟨by rw [← r.length]; exact z, ep_tup J1 z r q⟩)⟩
/-- tuple(xs) -/
abbrev rTupOfN (K : PySem.W.Frag) : List V → Hp → VK → Prop := fun xs H Q => ∃ p ys, xs = [.ref p] ∧ ((SqL K H p ys ∧ NewT H ys Q) ∨ (SqT K H p ys ∧ Q (.ref p) H))
theorem call_tupOfN : CallR X (.type "tuple") (rTupOfN X.K) := by
  intro pins s σ H xs us Q J r h
  obtain ⟨p, ys, rfl, h⟩ := h
  obtain ⟨u, rfl, rx⟩ := vals1 r
  cases rx
  rcases h with ⟨hq, q⟩ | ⟨hq, q⟩
  · obtain ⟨vz, r2, pl, hz⟩ := J.list hq
    have e := r2.length
    refine call_tuple_list pl.isList (fun h' kp => ep_tup (s := { s with heap := h' }) (J.kept (t' := s.toks) kp) hz r2 q) ?_
    rw [List.size_toArray, ← e]
    exact hz
  · obtain ⟨vz, r2, pl, _⟩ := J.tuple hq
    exact call_tuple_same pl ⟨.ref p, H, J, rfl, q⟩
/-- t[lo:hi] -/
def rSlN (K : PySem.W.Frag) : V → Option Int → Option Int → Hp → VK → Prop := fun x lo hi H Q => ∃ a xs, x = .ref a ∧ SqT K H a xs ∧
  (HT.sIx xs.length 0 lo = 0 ∧ HT.sIx xs.length xs.length hi = xs.length → Q (.ref a) H) ∧ (¬ (HT.sIx xs.length 0 lo = 0 ∧ HT.sIx xs.length xs.length hi = xs.length) → NewT H (cutV xs lo hi) Q)
theorem sl_tupN : SlR X (rSlN X.K) := by
  intro pins s σ H x v vl vu lo hi sl Q J rx hs pl pu h
  obtain ⟨a, xs, rfl, hx, q1, q2⟩ := h
  cases rx
  obtain ⟨vz, r, ht, hz⟩ := J.tuple hx
  have e : vz.toArray.size = xs.length := by rw [List.size_toArray, ← r.length]
  refine ⟨"tuple", _, PyProof.Rows.slot_tuple_getitem.lookup, ht.typeIs, ?_⟩
  by_cases w : HT.sIx xs.length 0 lo = 0 ∧ HT.sIx xs.length xs.length hi = xs.length
  · exact getItem_tuple_whole ht hs pl pu (by rw [e]; exact w) ⟨.ref a, H, J, rfl, q1 w⟩
  · refine HT.getItem_tuple_cut ht hs pl pu (by rw [e]; exact w) ?_ (by rw [e]; exact hz)
    rw [e]
    exact ep_tup J (Nat.le_trans (cutV_length xs lo hi) hz) ((r.drop _).take _) (q2 w)
/-- t + u -/
def rCatN (K : PySem.W.Frag) : R2 := fun x y H Q => ∃ a b xs ys, x = .ref a ∧ y = .ref b ∧ SqT K H a xs ∧ SqT K H b ys ∧ xs.length + ys.length ≤ sizeLine ∧
  (xs = [] → Q (.ref b) H) ∧ (xs ≠ [] → ys = [] → Q (.ref a) H) ∧ (xs ≠ [] → ys ≠ [] → NewT H (xs ++ ys) Q)
theorem op_catN : OpR X (binaryOp .Add) (rCatN X.K) := by
  intro pins s σ H x y v u Q J rx ry h
  obtain ⟨a, b, xs, ys, rfl, rfl, ha, hb, hz, q0, q1, q2⟩ := h
  cases rx
  cases ry
  obtain ⟨v1, r1, p1, _⟩ := J.tuple ha
  obtain ⟨v2, r2, p2, _⟩ := J.tuple hb
  by_cases nx : xs = []
  · subst nx
    cases r1
    exact cat_tup0 p1 p2 ⟨.ref b, H, J, rfl, q0 rfl⟩
  · refine HT.cat_tup p1 p2 (fun z => nx (r1.nil_iff.mp z)) (fun z => ⟨.ref a, H, J, rfl, q1 nx (r2.nil_iff.mp z)⟩) (fun z => ?_) (by rw [← r1.length, ← r2.length]; exact hz)
    exact ep_tup J (by rw [List.length_append]; exact hz) (r1.append r2) (q2 nx fun w => z (r2.nil_iff.mpr w))
/-- t * n -/
def rRepN (K : PySem.W.Frag) : R2 := fun x y H Q => ∃ l k xs, x = .ref l ∧ y = .int k ∧ SqT K H l xs ∧ xs ≠ [] ∧ 2 ≤ k ∧ k ≤ 1000 ∧ xs.length ≤ 1000 ∧ NewT H (List.replicate k.toNat xs).flatten Q
theorem op_repN : OpR X (binaryOp .Mult) (rRepN X.K) := by
  intro pins s σ H x y v u Q J rx ry h
  obtain ⟨l, k, xs, rfl, rfl, hT, ne, h1, h2, hz, q⟩ := h
  cases rx
  obtain ⟨t, rfl⟩ := ry
  obtain ⟨vz, r, ⟨⟨cls, dd, dat, slo⟩, ho, hc, n, hd⟩, _⟩ := J.tuple hT
  simp only at hc hd
  subst hc hd
  have le : vz.length = xs.length := r.length.symm
  have full : vz.toArray.isEmpty = false := by
    rcases vz with _ | ⟨y, ys⟩
    · exact absurd (List.eq_nil_of_length_eq_zero le.symm) ne
    · rfl
  have sz : vz.toArray.size = xs.length := by rw [List.size_toArray, le]
  have few : xs.length * k.toNat ≤ 1000 * 1000 := Nat.mul_le_mul hz (by omega)
  have many : ((vz.toArray.size : Nat) : Int) * k ≤ 1000000 := by
    have w : ((xs.length * k.toNat : Nat) : Int) = (xs.length : Int) * k := by
      rw [Int.natCast_mul, Int.toNat_of_nonneg (by omega)]
    rw [sz, ← w]
    omega
  have fl : (List.replicate k.toNat vz).flatten.length ≤ sizeLine := by
    rw [PyProof.Rows.lm_len_rep_flat, le, sizeLine_eq, Nat.mul_comm]
    omega
  have b0 : (decide (k < -(2 ^ 63)) || decide (k ≥ 2 ^ 63)) = false := by
    rw [decide_eq_false (by omega), decide_eq_false (by omega)]; rfl
  have b1 : (vz.toArray.isEmpty || k == 1) = false := by
    rw [full, beq_eq_false_iff_ne.mpr (show k ≠ 1 by omega)]; rfl
  have b2 : (decide (k ≤ 0) || vz.toArray.isEmpty) = false := by
    rw [full, decide_eq_false (show ¬ k ≤ 0 by omega)]; rfl
  have b4 : Builtin.Tuple.tupleTooMany (((vz.toArray.size : Nat) : Int) * k) = false := by
    unfold Builtin.Tuple.tupleTooMany
    exact decide_eq_false (by rw [sizeLine_eq]; omega)
  refine wpAny_binaryOp_repeat_ref (T := "tuple") (U := "int") (by decide) ⟨_, ho, rfl⟩ (fun s' => typeIs_int s' k t) noFill_tuple_mul F.fills_int_mul F.slot_int_rmul repeat_tuple F.slot_int_index.lookup ?_
  refine call_meets F.slot_int_rmul (typeIs_int s k t) F.entry_int_rmul (F.args_int_rmul_2 _ _) (int_rmul_tuple k t l vz.toArray n dd slo) ⟨ho, rfl, ⟨_, ho, rfl⟩, ?_⟩
  refine call_meets F.slot_tuple_mul ⟨_, ho, rfl⟩ F.entry_tuple_mul (F.args_tuple_mul_2 _ _) (tuple_mulW l vz.toArray n dd slo k t b0 b1 b2 (by omega) b4 (by rw [size_rep, List.size_toArray]; exact fl)) ⟨ho, ?_⟩
  rw [size_rep]
  exact ep_tup J (by rw [PyProof.Rows.lm_len_rep_flat, sizeLine_eq, Nat.mul_comm]; omega) (r.rep k.toNat) q
/-- tuple(range(..)) -/
def tTupRgN (te : L2.St → Hp → (Int → Int → Hp → Prop) → Prop) : TE := fun σ H Q => te σ H fun a b H1 => RgOk a b ∧ NewT H1 (rgV a b) Q
theorem pe_tupRgN {tr : L2.St → Hp → (Int → Int → Hp → Prop) → Prop} {p pos : Pos} (hc : X.calm = true) (hg : Gl X "tuple") (hm : X.mg "tuple" = none) (he : PRg X e tr) (na : starEach [e] X.env = (false, eval e X.env) :: starEach [] X.env := by rfl) : PE X (.Call (.Name "tuple" p) [e] [] pos) (tTupRgN tr) := by
  refine ⟨fun pins s σ H Q J h => ?_⟩
  refine Call_ (ld_blt J hg hm boot_tuple (PyProof.Rows.callWith_type1 (args_cons (thn (he pins s σ H _ J h) fun x s1 w => ?_) na) na))
  obtain ⟨r, a, b, t, u, v, H1, ex, hr, J1, ⟨b1, b2, b3, b4, b5⟩, q⟩ := w
  refine args_nil ?_
  subst ex
  refine call_tuple_range (n := (b - a).toNat) (J1.ok.hd hc) hr (small_one b1 b2 b3 b4) (rangeSize_nat a b) b5 fun h' tk acc hk hi => ?_
  have go := ep_tup (s := { s1 with heap := h', toks := tk }) (Q := Q) (J1.kept hk) (xs := rgV a b) (vz := acc.toList) (by rw [rgV_length, sizeLine_eq]; omega) (vals_rg hi) q
  simpa only [tobj, Array.toArray_toList] using go
end
end VL
namespace VL
open PySem PySem.Spec PyProof.Rows L2 VG

/-- what is frozen, and how many draws of a feed of four places there were, at most -/
structure FS where
  fr : Addr → Prop
  ck : Nat
instance : CoeFun FS (fun _ => Addr → Prop) := ⟨FS.fr⟩
abbrev FS.or (F : FS) (N : Addr → Prop) : FS := ⟨fun x => F.fr x ∨ N x, F.ck⟩
def LIM : Nat := 1099511627776
abbrev Hs := L2.St

/-- what a container is: a list; a dict by its keys: ints and texts, or tuples of these -/
inductive CT where
  | lst | K (ks : List L2.Key) | T (ks : List (List L2.Key))
def CT.ho : CT → List V → HO
  | .lst, us => .lst us
  | .K ks, us => .dK (ks.zip us)
  | .T ks, us => .dT (ks.zip us)
def kD : L2.Key → PyData
  | .inl i => .int i
  | .inr x => .str x
def kDs (k : List L2.Key) : PyData := .tuple (k.map kD)
def dKD (kvs : List (L2.Key × PyData)) : PyData := .dict (kvs.map fun kv => (kD kv.1, kv.2))
/-- v is the data d: lists in it stand among the frozen ones -/
inductive Rp (K : PySem.W.Frag) (F : FS) (H : Hp) : Bool → List V → List PyData → Prop
  | nil : Rp K F H true [] []
  | cons {v : V} {vs : List V} {d : PyData} {ds : List PyData} : Rp K F H false [v] [d] → Rp K F H true vs ds → Rp K F H true (v :: vs) (d :: ds)
  | non : Rp K F H false [.non] [.none]
  | bl (b : Bool) : Rp K F H false [.bl b] [.bool b]
  | int (i : Int) : Rp K F H false [.int i] [.int i]
  | str (x : Str) : Rp K F H false [.str x] [.str x]
  | lst {a : Addr} {xs : List V} {ds : List PyData} : F a → H a = some (.lst xs) → Rp K F H true xs ds → Rp K F H false [.ref a] [.list ds]
  | tup {a : Addr} {xs : List V} {ds : List PyData} : SqN K H a xs → Rp K F H true xs ds → Rp K F H false [.ref a] [.tuple ds]
  | dic {a : Addr} {ks : List L2.Key} {xs : List V} {ds : List PyData} : F a → H a = some (.dK (ks.zip xs)) → Rp K F H true xs ds → Rp K F H false [.ref a] [.dict ((ks.zip ds).map fun kv => (kD kv.1, kv.2))]
abbrev R1 (K : PySem.W.Frag) (F : FS) (H : Hp) (v : V) (d : PyData) : Prop := Rp K F H false [v] [d]
abbrev RA (K : PySem.W.Frag) (F : FS) (H : Hp) (vs : List V) (ds : List PyData) : Prop := Rp K F H true vs ds

/-- what frozen lists, tuples and locked things keep -/
structure FM (F F' : FS) (H H' : Hp) : Prop where
  fr : ∀ a, F a → F' a
  fk : ∀ a o, F a → H a = some o → H' a = some o
  tp : ∀ a xs, H a = some (.tup xs) → H' a = some (.tup xs)
  fz : ∀ a o u, H a = some (.frz o u) → H' a = some (.frz o u)
/-- a step: but for the addresses of M all that was tracked stays -/
structure Stp (M : Addr → Prop) (F F' : FS) (H H' : Hp) : Prop extends FM F F' H H' where
  kp : ∀ a o, H a = some o → ¬ M a → H' a = some o
  ex : ∀ a, H a ≠ none → H' a ≠ none
  nw : ∀ a, F' a → F a ∨ H a = none
  ck : F.ck ≤ F'.ck
/-- a list, a dict -/
inductive LD : HO → Prop
  | lst {xs : List V} : LD (.lst xs)
  | dct {kvs : List (L2.Key × V)} : LD (.dK kvs)
  | dtt {kvs : List (List L2.Key × V)} : LD (.dT kvs)
theorem CT.ld : ∀ (c : CT) (us : List V), LD (c.ho us)
  | .lst, _ => .lst
  | .K _, _ => .dct
  | .T _, _ => .dtt
theorem CT.nt : ∀ (c : CT) (us : List V) (xs : List V), c.ho us ≠ .tup xs
  | .lst, _, _ => (fun z => nomatch z)
  | .K _, _, _ => (fun z => nomatch z)
  | .T _, _, _ => (fun z => nomatch z)
theorem CT.nf : ∀ (c : CT) (us : List V) (o : Obj) (u : HO), c.ho us ≠ .frz o u
  | .lst, _, _, _ => (fun z => nomatch z)
  | .K _, _, _, _ => (fun z => nomatch z)
  | .T _, _, _, _ => (fun z => nomatch z)
def FOk (F : FS) (H : Hp) : Prop := ∀ a, F a → ∃ o, H a = some o ∧ LD o

section
variable {K : PySem.W.Frag} {F F' F1 F2 : FS} {H H' H1 H2 : Hp} {M M' : Addr → Prop}
theorem FM.sqt (m : FM F F' H H') {a : Addr} {xs : List V} (h : SqT K H a xs) : SqT K H' a xs := by
  rcases h with (h | ⟨o, h⟩) | h
  · exact .inl (.inl (m.tp _ _ h))
  · exact .inl (.inr ⟨o, m.fz _ _ _ h⟩)
  · exact .inr h
theorem FM.sqn (m : FM F F' H H') {a : Addr} {xs : List V} (h : SqN K H a xs) : SqN K H' a xs := by
  rcases h with ⟨o, d, h⟩ | h
  · exact .inl ⟨o, d, m.fz _ _ _ h⟩
  · exact .inr h
theorem Rp.mono (m : FM F F' H H') {b : Bool} {vs : List V} {ds : List PyData} (h : Rp K F H b vs ds) : Rp K F' H' b vs ds := by
  induction h with
  | nil => exact .nil
  | cons _ _ a b => exact .cons a b
  | non => exact .non
  | bl b => exact .bl b
  | int i => exact .int i
  | str x => exact .str x
  | lst f h _ ih => exact .lst (m.fr _ f) (m.fk _ _ f h) ih
  | dic f h _ ih => exact .dic (m.fr _ f) (m.fk _ _ f h) ih
  | tup h _ ih => exact .tup (m.sqn h) ih
theorem RA.len : ∀ {vs : List V} {ds : List PyData} (_ : RA K F H vs ds), vs.length = ds.length
  | _, _, .nil => rfl
  | _, _, .cons _ b => congrArg Nat.succ (RA.len b)
theorem RA.uncons {v : V} {vs : List V} {d : PyData} {ds : List PyData} (h : RA K F H (v :: vs) (d :: ds)) : R1 K F H v d ∧ RA K F H vs ds := by
  cases h with
  | cons a b => exact ⟨a, b⟩
theorem RA.get : ∀ {vs : List V} {ds : List PyData} (_ : RA K F H vs ds) {i : Nat} {d : PyData}, ds[i]? = some d → ∃ v, vs[i]? = some v ∧ R1 K F H v d
  | _, _, .nil, _, _, e => by simp at e
  | _, _, .cons a _, 0, d, e => by simp at e; subst e; exact ⟨_, rfl, a⟩
  | _, _, .cons _ b, i + 1, d, e => by
    obtain ⟨v, h1, h2⟩ := RA.get b (i := i) (d := d) (by simpa using e)
    exact ⟨v, by simpa using h1, h2⟩
theorem RA.append : ∀ {vs : List V} {ds : List PyData} {us : List V} {es : List PyData}, RA K F H vs ds → RA K F H us es → RA K F H (vs ++ us) (ds ++ es)
  | _, _, _, _, .nil, s => s
  | _, _, _, _, .cons a b, s => .cons a (RA.append b s)
theorem RA.drop : ∀ {vs : List V} {ds : List PyData} (n : Nat), RA K F H vs ds → RA K F H (vs.drop n) (ds.drop n)
  | _, _, 0, h => h
  | _, _, _ + 1, .nil => .nil
  | _, _, n + 1, .cons _ b => RA.drop n b
theorem RA.take : ∀ {vs : List V} {ds : List PyData} (n : Nat), RA K F H vs ds → RA K F H (vs.take n) (ds.take n)
  | _, _, 0, _ => .nil
  | _, _, _ + 1, .nil => .nil
  | _, _, n + 1, .cons a b => .cons a (RA.take n b)
theorem RA.set {v : V} {d : PyData} (r : R1 K F H v d) : ∀ {vs : List V} {ds : List PyData} (n : Nat), RA K F H vs ds → RA K F H (vs.set n v) (ds.set n d)
  | _, _, _, .nil => .nil
  | _, _, 0, .cons _ b => .cons r b
  | _, _, n + 1, .cons a b => .cons a (RA.set r n b)
theorem RA.rep {vs : List V} {ds : List PyData} (h : RA K F H vs ds) : ∀ k : Nat, RA K F H (List.replicate k vs).flatten (List.replicate k ds).flatten
  | 0 => .nil
  | k + 1 => by
    rw [List.replicate_succ, List.replicate_succ, List.flatten_cons, List.flatten_cons]
    exact h.append (RA.rep h k)
theorem RA.one {v : V} {d : PyData} (h : R1 K F H v d) : RA K F H [v] [d] := .cons h .nil
theorem RA.ints : ∀ ns : List Int, RA K F H (ns.map V.int) (ns.map PyData.int)
  | [] => .nil
  | n :: ns => .cons (.int n) (RA.ints ns)
theorem RA.strs : ∀ ns : List Str, RA K F H (ns.map V.str) (ns.map PyData.str)
  | [] => .nil
  | n :: ns => .cons (.str n) (RA.strs ns)

mutual
theorem R1.dp : ∀ {d : PyData} {v : V}, R1 K F H v d → d.hasDict = false → Dp K H v d
  | .none, _, .non, _ => .non
  | .bool _, _, .bl b, _ => .bl b
  | .int _, _, .int i, _ => .int i
  | .str _, _, .str x, _ => .str x
  | .list _, _, .lst _ h r, n => .lst (SqL.of h) (RA.dp r (by simpa [PyData.hasDict] using n))
  | .tuple _, _, .tup h r, n => .tup h.t (RA.dp r (by simpa [PyData.hasDict] using n))
  | .dict _, _, _, n => absurd n (by simp [PyData.hasDict])
theorem RA.dp : ∀ {ds : List PyData} {vs : List V}, RA K F H vs ds → PyData.hasDictAll ds = false → DpAll K H vs ds
  | [], _, .nil, _ => .nil
  | _ :: _, _, .cons a b, n => .cons (R1.dp a (by simp only [PyData.hasDictAll, Bool.or_eq_false_iff] at n; exact n.1)) (RA.dp b (by simp only [PyData.hasDictAll, Bool.or_eq_false_iff] at n; exact n.2))
end

theorem FM.refl : FM F F H H := ⟨fun _ h => h, fun _ _ _ h => h, fun _ _ h => h, fun _ _ _ h => h⟩
theorem FM.trans (a : FM F F1 H H1) (b : FM F1 F2 H1 H2) : FM F F2 H H2 :=
  ⟨fun x h => b.fr x (a.fr x h), fun x o f h => b.fk x o (a.fr x f) (a.fk x o f h), fun x xs h => b.tp x xs (a.tp x xs h), fun x o u h => b.fz x o u (a.fz x o u h)⟩
theorem Stp.refl : Stp M F F H H := ⟨FM.refl, fun _ _ h _ => h, fun _ h => h, fun _ h => .inl h, Nat.le_refl _⟩
/-- two steps; what the second one may change, the first one might, or it is new since -/
theorem Stp.join (a : Stp M F F1 H H1) (b : Stp M' F1 F2 H1 H2) (h : ∀ x, M' x → M x ∨ H x = none) : Stp M F F2 H H2 where
  toFM := a.toFM.trans b.toFM
  kp := fun x o e m => b.kp x o (a.kp x o e m) fun m' => (h x m').elim m fun z => by rw [z] at e; cases e
  ex := fun x e => b.ex x (a.ex x e)
  nw := fun x f => (b.nw x f).elim (a.nw x) fun z => by
    by_cases e : H x = none
    · exact .inr e
    · exact absurd z (a.ex x e)
  ck := Nat.le_trans a.ck b.ck
theorem Stp.trans (a : Stp M F F1 H H1) (b : Stp M F1 F2 H1 H2) : Stp M F F2 H H2 := a.join b fun _ m => .inl m
theorem Stp.more (a : Stp M F F1 H H1) (h : ∀ x, M x → M' x) : Stp M' F F1 H H1 := ⟨a.toFM, fun x o e m => a.kp x o e fun z => m (h x z), a.ex, a.nw, a.ck⟩
/-- a new object, not frozen -/
theorem Stp.new {p : Addr} {o : HO} (hp : H p = none) : Stp M F F H (upd H p o) := by
  have k : ∀ a u, H a = some u → upd H p o a = some u := fun a u e => by rw [upd_ne (ne_of_none e hp)]; exact e
  refine ⟨⟨fun _ h => h, fun a u _ e => k a u e, fun a xs e => k a _ e, fun a o u e => k a _ e⟩, fun a u e _ => k a u e, fun a h => ?_, fun _ h => .inl h, Nat.le_refl _⟩
  rcases e : H a with _ | u
  · exact absurd e h
  · rw [k a u e]; exact fun z => nomatch z
theorem FOk.new {p : Addr} {o : HO} (f : FOk F H) (hp : H p = none) : FOk F (upd H p o) := fun a h => by
  obtain ⟨xs, e, l⟩ := f a h
  exact ⟨xs, by rw [upd_ne (ne_of_none e hp)]; exact e, l⟩
/-- a set of lists that were new becomes frozen -/
theorem Stp.frz {N : Addr → Prop} (a : Stp M F F1 H H1) (hn : ∀ x, N x → H x = none) : Stp M F (F1.or N) H H1 :=
  ⟨⟨fun x h => .inl (a.fr x h), a.fk, a.tp, a.fz⟩, a.kp, a.ex, fun x h => h.elim (a.nw x) fun z => .inr (hn x z), a.ck⟩
theorem FM.grow {N : Addr → Prop} : FM F (F.or N) H H := ⟨fun _ h => .inl h, fun _ _ _ h => h, fun _ _ h => h, fun _ _ _ h => h⟩
end

/-! ### what a slot holds -/
/-- a feed: a dict of four keys (tap: a list of four places), the cells at the head -/
structure Cel where
  tap : Bool
  ns : List Int
instance : Coe (List Int) Cel := ⟨fun ns => ⟨false, ns⟩⟩
def celO (t : Bool) (c : Addr) (i l n : Int) : HO := match t with
  | true => .lst [.ref c, .int i, .int l, .int n]
  | false => .dK [(.inr "cells", .ref c), (.inr "at", .int i), (.inr "left", .int l), (.inr "count", .int n)]
inductive SV where
  /-- not known; data; a list of this frame alone; a list that is read; the law's feed; the script; a dict that stays -/
  | un | v (d : PyData) | ow (c : CT) (ds : List PyData) | bw (c : CT) (ds : List PyData) | fz (ks : List (List L2.Key)) (ds : List PyData) | cell (a : Addr) (ns : Cel) | scr (ns : List Int) | dct (kvs : List (L2.Key × PyData)) | fns (kvs : List (L2.Key × V))

abbrev SV.own (ds : List PyData) : SV := .ow .lst ds
abbrev SV.brw (ds : List PyData) : SV := .bw .lst ds

/-- the script, whatever else changes -/
def ScrL (K : PySem.W.Frag) (H : Hp) (a : Addr) (ns : List Int) : Prop :=
  ∀ H' : Hp, (∀ b o u, H b = some (.frz o u) → H' b = some (.frz o u)) → SqL K H' a (ns.map V.int)

/-- the feed: a dict with these four keys -/
def CI (F : FS) (H : Hp) (a : Addr) (ns : Cel) : Prop :=
  ¬ F a ∧ ∃ (c : Addr) (i l n : Int), H a = some (celO ns.tap c i l n) ∧
    F c ∧ H c = some (.lst (ns.ns.map V.int)) ∧ (ns.tap = true → 0 ≤ n ∧ n ≤ F.ck)

section
variable {K : PySem.W.Frag} {F F' F1 F2 : FS} {H H' H1 H2 : Hp} {M : Addr → Prop}
theorem CI.there {a : Addr} {ns : Cel} (c : CI F H a ns) : H a ≠ none := by
  obtain ⟨_, _, _, _, _, e, _⟩ := c
  rw [e]; exact fun z => nomatch z
theorem map_int_inj : ∀ {ns ms : List Int}, ns.map V.int = ms.map V.int → ns = ms
  | [], [], _ => rfl
  | [], _ :: _, e => by cases e
  | _ :: _, [], e => by cases e
  | _ :: _, _ :: _, e => by
    simp only [List.map_cons, List.cons.injEq, V.int.injEq] at e
    rw [e.1, map_int_inj e.2]
theorem CI.uniq {a : Addr} {ns ms : Cel} (c : CI F H a ns) (d : CI F' H a ms) : ns = ms := by
  obtain ⟨_, c1, i, l, n, e, _, e2, _⟩ := c
  obtain ⟨_, c2, i', l', n', e', _, e2', _⟩ := d
  rw [e] at e'
  have e' := Option.some.inj e'
  obtain ⟨t, ns⟩ := ns
  obtain ⟨t', ms⟩ := ms
  have h : t = t' ∧ c1 = c2 := by
    cases t <;> cases t'
    · have this : celO false c1 i l n = celO false c2 i' l' n' := e'
      injection this with this
      simp only [List.cons.injEq, Prod.mk.injEq, V.ref.injEq] at this
      exact ⟨rfl, this.1.2⟩
    · exact nomatch e'
    · exact nomatch e'
    · have this : celO true c1 i l n = celO true c2 i' l' n' := e'
      injection this with this
      simp only [List.cons.injEq, V.ref.injEq] at this
      exact ⟨rfl, this.1⟩
  obtain ⟨rfl, rfl⟩ := h
  rw [e2] at e2'
  have := Option.some.inj e2'
  injection this with this
  exact congrArg (Cel.mk t) (map_int_inj this)
theorem CI.keep {a : Addr} {ns : Cel} (c : CI F H a ns) (s : Stp M F F' H H') (m : ¬ M a) : CI F' H' a ns := by
  have t := c.there
  obtain ⟨nf, c', i, l, n, e, f, e2, cb⟩ := c
  exact ⟨fun z => (s.nw a z).elim nf t, c', i, l, n, s.kp _ _ e m, s.fr _ f, s.fk _ _ f e2, fun z => ⟨(cb z).1, Int.le_trans (cb z).2 (Int.ofNat_le.mpr s.ck)⟩⟩

def SlotR (K : PySem.W.Frag) (F : FS) (H : Hp) (u : V) : SV → Prop
  | .un => True
  | .v d => R1 K F H u d
  | .ow c ds => ∃ p us, u = .ref p ∧ H p = some (c.ho us) ∧ ¬ F p ∧ RA K F H us ds
  | .bw c ds => ∃ p us, u = .ref p ∧ H p = some (c.ho us) ∧ RA K F H us ds
  | .fz ks ds => ∃ p us, u = .ref p ∧ F p ∧ H p = some (.dT (ks.zip us)) ∧ RA K F H us ds
  | .cell a ns => u = .ref a ∧ CI F H a ns
  | .scr ns => ∃ a, u = .ref a ∧ ScrL K H a ns
  | .dct kvs => ∃ p us, u = .ref p ∧ F p ∧ H p = some (.dK us) ∧ us.map (·.1) = kvs.map (·.1) ∧ RA K F H (us.map (·.2)) (kvs.map (·.2))
  | .fns kvs => ∃ p, u = .ref p ∧ F p ∧ H p = some (.dK kvs)

def cellsOf (ρ : List SV) : Addr → Prop := fun a => ∃ (i : Nat) (ns : Cel), ρ[i]? = some (SV.cell a ns)

/-- where a def began: what was frozen, the heap, the feeds that it was handed; and what is to stay while a loop walks it -/
structure Bas where
  F0 : FS
  H0 : Hp
  c0 : Addr → Cel → Prop
  G : Addr → HO → Prop
/-- never changed: frozen, a tuple, locked -/
def Stay (F : FS) (a : Addr) (o : HO) : Prop := F a ∨ (∃ xs, o = .tup xs) ∨ ∃ ob u, o = .frz ob u
structure ER (K : PySem.W.Frag) (B : Bas) (F : FS) (H : Hp) (σ : Hs) (ρ : List SV) : Prop where
  len : σ.length = ρ.length
  sl : ∀ (i : Nat) (s : SV), ρ[i]? = some s → s ≠ .un → ∃ u, σ[i]? = some (some u) ∧ SlotR K F H u s
  nb : ∀ (i : Nat) (c : CT) (ds : List PyData), ρ[i]? ≠ some (.bw c ds)
  ow : ∀ (i j : Nat) (c c' : CT) (ds es : List PyData) (p : Addr), ρ[i]? = some (.ow c ds) → ρ[j]? = some (.ow c' es) → σ[i]? = some (some (.ref p)) → σ[j]? = some (some (.ref p)) → i = j
  fr : ∀ (i : Nat) (c : CT) (ds : List PyData) (p : Addr), ρ[i]? = some (.ow c ds) → σ[i]? = some (some (.ref p)) → B.H0 p = none ∧ ¬ cellsOf ρ p
  cf : ∀ a, cellsOf ρ a → (∃ ns, B.c0 a ns) ∨ B.H0 a = none
  bs : Stp (fun a => ∃ ns, B.c0 a ns) B.F0 F B.H0 H
  kb : ∀ a ns, B.c0 a ns → CI F H a ns ∧ B.H0 a ≠ none
  pin : ∀ a o, B.G a o → H a = some o ∧ Stay F a o
  dm : FOk F H

/-- what an expression leaves -/
structure Ext (ρ : List SV) (F : FS) (H : Hp) (F' : FS) (H' : Hp) : Prop where
  st : Stp (cellsOf ρ) F F' H H'
  dm : FOk F' H'
  cl : ∀ (i : Nat) (a : Addr) (ns : Cel), ρ[i]? = some (SV.cell a ns) → CI F' H' a ns
  cp : ∀ a, cellsOf ρ a → H a ≠ none
def Fo (ρ : List SV) (H : Hp) (u : V) : SV → Prop
  | .ow _ _ => ∀ p, u = .ref p → H p = none
  | .bw _ _ => ∀ p, u = .ref p → ¬ cellsOf ρ p
  | .cell a ns => (∃ i : Nat, ρ[i]? = some (.cell a ns)) ∨ H a = none
  | _ => True
structure Res (K : PySem.W.Frag) (ρ : List SV) (F : FS) (H : Hp) (F' : FS) (H' : Hp) (s : SV) (u : V) : Prop extends Ext ρ F H F' H' where
  sr : SlotR K F' H' u s
  fo : Fo ρ H u s

variable {ρ : List SV} {B : Bas} {σ : Hs} {s : SV} {u : V}
theorem ER.cell (e : ER K B F H σ ρ) {i : Nat} {a : Addr} {ns : Cel} (h : ρ[i]? = some (.cell a ns)) : CI F H a ns := by
  obtain ⟨u, _, _, c⟩ := e.sl i _ h (fun z => nomatch z)
  exact c
theorem ER.refl (e : ER K B F H σ ρ) : Ext ρ F H F H :=
  ⟨Stp.refl, e.dm, fun i a ns h => e.cell h, fun a ⟨i, ns, h⟩ => (e.cell h).there⟩
theorem Ext.trans (a : Ext ρ F H F1 H1) (b : Ext ρ F1 H1 F2 H2) : Ext ρ F H F2 H2 := ⟨a.st.trans b.st, b.dm, b.cl, a.cp⟩
/-- one that changes nothing that was there -/
theorem Ext.pure (a : Ext ρ F H F1 H1) (s : Stp (fun _ => False) F1 F2 H1 H2) (d : FOk F2 H2) : Ext ρ F H F2 H2 :=
  ⟨a.st.trans (s.more fun _ z => z.elim), d, fun i x ns h => (a.cl i x ns h).keep s id, a.cp⟩
theorem ScrL.keep {a : Addr} {ns : List Int} (h : ScrL K H a ns) (m : FM F F' H H') : ScrL K H' a ns := fun H2 k => h H2 fun b o u e => k b o u (m.fz b o u e)
/-- a result stands while others are reckoned -/
theorem SlotR.keep (h : SlotR K F1 H1 u s) (fo : Fo ρ H u s) (cp : ∀ a, cellsOf ρ a → H a ≠ none) (x : Ext ρ F1 H1 F2 H2) : SlotR K F2 H2 u s := by
  cases s with
  | un => trivial
  | v d => exact Rp.mono x.st.toFM h
  | ow c ds =>
    obtain ⟨p, us, rfl, e, nf, r⟩ := h
    have nc : ¬ cellsOf ρ p := fun z => cp p z (fo p rfl)
    refine ⟨p, us, rfl, x.st.kp _ _ e nc, fun z => (x.st.nw p z).elim nf fun q => ?_, Rp.mono x.st.toFM r⟩
    rw [q] at e; cases e
  | fz ks ds =>
    obtain ⟨p, us, rfl, f, e, r⟩ := h
    exact ⟨p, us, rfl, x.st.fr _ f, x.st.fk _ _ f e, Rp.mono x.st.toFM r⟩
  | bw c ds =>
    obtain ⟨p, us, rfl, e, r⟩ := h
    exact ⟨p, us, rfl, x.st.kp _ _ e (fo p rfl), Rp.mono x.st.toFM r⟩
  | cell a ns =>
    obtain ⟨rfl, c⟩ := h
    rcases fo with ⟨i, z⟩ | z
    · exact ⟨rfl, x.cl i a ns z⟩
    · exact ⟨rfl, c.keep x.st fun q => cp a q z⟩
  | scr ns =>
    obtain ⟨a, rfl, q⟩ := h
    exact ⟨a, rfl, q.keep x.st.toFM⟩
  | dct kvs =>
    obtain ⟨p, us, rfl, f, e, k, r⟩ := h
    exact ⟨p, us, rfl, x.st.fr _ f, x.st.fk _ _ f e, k, Rp.mono x.st.toFM r⟩
  | fns kvs =>
    obtain ⟨p, rfl, f, e⟩ := h
    exact ⟨p, rfl, x.st.fr _ f, x.st.fk _ _ f e⟩
theorem ER.step (e : ER K B F H σ ρ) (x : Ext ρ F H F1 H1) : ER K B F1 H1 σ ρ where
  len := e.len
  sl := fun i s h hn => by
    obtain ⟨u, h1, h2⟩ := e.sl i s h hn
    refine ⟨u, h1, ?_⟩
    cases s with
    | un => trivial
    | v d => exact Rp.mono x.st.toFM h2
    | fz ks ds =>
      obtain ⟨p, us, rfl, f, e1, r⟩ := h2
      exact ⟨p, us, rfl, x.st.fr _ f, x.st.fk _ _ f e1, Rp.mono x.st.toFM r⟩
    | ow c ds =>
      obtain ⟨p, us, rfl, q, nf, r⟩ := h2
      refine ⟨p, us, rfl, x.st.kp _ _ q (e.fr i c ds p h h1).2, fun z => (x.st.nw p z).elim nf fun y => ?_, Rp.mono x.st.toFM r⟩
      rw [y] at q; cases q
    | bw c ds => exact absurd h (e.nb i c ds)
    | cell a ns => exact ⟨h2.1, x.cl i a ns h⟩
    | scr ns =>
      obtain ⟨a, rfl, q⟩ := h2
      exact ⟨a, rfl, q.keep x.st.toFM⟩
    | dct kvs =>
      obtain ⟨p, us, rfl, f, e1, k, r⟩ := h2
      exact ⟨p, us, rfl, x.st.fr _ f, x.st.fk _ _ f e1, k, Rp.mono x.st.toFM r⟩
    | fns kvs =>
      obtain ⟨p, rfl, f, e1⟩ := h2
      exact ⟨p, rfl, x.st.fr _ f, x.st.fk _ _ f e1⟩
  nb := e.nb
  ow := e.ow
  fr := e.fr
  cf := e.cf
  bs := e.bs.join x.st e.cf
  kb := fun a ns h => by
    obtain ⟨c, n⟩ := e.kb a ns h
    refine ⟨?_, n⟩
    by_cases z : cellsOf ρ a
    · obtain ⟨i, ms, q⟩ := z
      have e2 := c.uniq (e.cell q)
      subst e2
      exact x.cl i a ns q
    · exact c.keep x.st z
  pin := fun a o h => by
    obtain ⟨h1, h2⟩ := e.pin a o h
    rcases h2 with f | ⟨xs, rfl⟩ | ⟨ob, u, rfl⟩
    · exact ⟨x.st.fk _ _ f h1, .inl (x.st.fr _ f)⟩
    · exact ⟨x.st.tp _ _ h1, .inr (.inl ⟨_, rfl⟩)⟩
    · exact ⟨x.st.fz _ _ _ h1, .inr (.inr ⟨_, _, rfl⟩)⟩
  dm := x.dm
end
end VL
namespace VL
open PySem PySem.Spec PyProof.Rows L2 VG

abbrev Env := List SV
abbrev TV := Env → (SV → Prop) → Prop
abbrev TVb := Env → (Bool → Prop) → Prop
abbrev TVs := Env → (List SV → Prop) → Prop

/-- te reads t, by κ draws at most -/
abbrev RE (X : Cx) (t : TV) (κ : Nat) (te : TE) : Prop := ∀ B F H σ ρ (Q : SV → Prop) (R : VK), ER X.K B F H σ ρ → F.ck + κ ≤ LIM → t ρ Q → (∀ s u F' H', F'.ck ≤ F.ck + κ → Q s → Res X.K ρ F H F' H' s u → R u H') → te σ H R
/-- e's reading over values -/
def VE (X : Cx) (e : Expr) (t : TV) (κ : Nat) : Prop := ∃ te, PE X e te ∧
  ∀ B F H σ ρ (Q : SV → Prop) (R : VK), ER X.K B F H σ ρ → F.ck + κ ≤ LIM → t ρ Q → (∀ s u F' H', F'.ck ≤ F.ck + κ → Q s → Res X.K ρ F H F' H' s u → R u H') → te σ H R
def VT (X : Cx) (e : Expr) (t : TVb) (κ : Nat) : Prop := ∃ te, PT X e te ∧
  ∀ B F H σ ρ (Q : Bool → Prop) (R : Bool → Hp → Prop), ER X.K B F H σ ρ → F.ck + κ ≤ LIM → t ρ Q → (∀ b F' H', F'.ck ≤ F.ck + κ → Q b → Ext ρ F H F' H' → R b H') → te σ H R
/-- a chain of and, or -/
def VW (X : Cx) (e : Expr) (t : TVb) (κ : Nat) : Prop := ∃ te, PW X e te ∧
  ∀ B F H σ ρ (Q : Bool → Prop) (R : Bool → Hp → Prop), ER X.K B F H σ ρ → F.ck + κ ≤ LIM → t ρ Q → (∀ b F' H', F'.ck ≤ F.ck + κ → Q b → Ext ρ F H F' H' → R b H') → te σ H R
def AllR (K : PySem.W.Frag) (ρ : Env) (F : FS) (H Hs : Hp) : List V → List SV → Prop
  | [], [] => True
  | u :: us, s :: ss => SlotR K F H u s ∧ Fo ρ Hs u s ∧ AllR K ρ F H Hs us ss
  | _, _ => False
/-- a row of expressions -/
def VA (X : Cx) (es : List Expr) (t : TVs) (κ : Nat) : Prop := ∃ ta, PA X es ta ∧
  ∀ B F H σ ρ (Q : List SV → Prop) (R : List V → Hp → Prop), ER X.K B F H σ ρ → F.ck + κ ≤ LIM → t ρ Q →
    (∀ ss us F' H', F'.ck ≤ F.ck + κ → Q ss → Ext ρ F H F' H' → AllR X.K ρ F' H' H us ss → R us H') → ta σ H R

section
variable {X : Cx} {K : PySem.W.Frag} {ρ : Env} {F F' F1 F2 : FS} {H H' H1 H2 : Hp} {u : V} {s : SV}
theorem AllR.keep (cp : ∀ a, cellsOf ρ a → H a ≠ none) (x : Ext ρ F1 H1 F2 H2) : ∀ {us : List V} {ss : List SV}, AllR K ρ F1 H1 H us ss → AllR K ρ F2 H2 H us ss
  | [], [], _ => trivial
  | _ :: _, _ :: _, ⟨a, b, c⟩ => ⟨a.keep b cp x, b, AllR.keep cp x c⟩
  | [], _ :: _, h => h.elim
  | _ :: _, [], h => h.elim
theorem AllR.len : ∀ {us : List V} {ss : List SV}, AllR K ρ F H H1 us ss → us.length = ss.length
  | [], [], _ => rfl
  | _ :: _, _ :: _, ⟨_, _, c⟩ => congrArg Nat.succ (AllR.len c)
  | [], _ :: _, h => h.elim
  | _ :: _, [], h => h.elim
/-- what is new at a step further on was new before -/
theorem Fo.back (x : Ext ρ F H F1 H1) (h : Fo ρ H1 u s) : Fo ρ H u s := by
  have nw : ∀ p, H1 p = none → H p = none := fun p e => by
    by_cases z : H p = none
    · exact z
    · exact absurd e (x.st.ex p z)
  cases s with
  | ow c ds => exact fun p e => nw p (h p e)
  | bw c ds => exact h
  | cell a ns => exact h.imp id (nw a)
  | _ => trivial
theorem Res.trans {F2 : FS} {H2 : Hp} (x : Ext ρ F H F1 H1) (r : Res K ρ F1 H1 F2 H2 s u) : Res K ρ F H F2 H2 s u :=
  ⟨x.trans r.toExt, r.sr, r.fo.back x⟩

/-! ### names and constants -/
/-- what reading a name gives: a list of the frame's own is lent -/
def SV.lend : SV → SV
  | .ow c ds => .bw c ds
  | s => s
def vVar (i : Nat) : TV := fun ρ Q => match ρ[i]? with
  | some .un => False
  | none => False
  | some s => Q s.lend
theorem ve_var {e : Expr} {i : Nat} (h : PE X e (tVar i)) : VE X e (vVar i) 0 := by
  refine ⟨_, h, fun B F H σ ρ Q R er bq t k => ?_⟩
  unfold vVar at t
  rcases hs : ρ[i]? with _ | s
  · rw [hs] at t; exact t.elim
  · have hn : s ≠ .un := by
      rintro rfl
      rw [hs] at t; exact t
    obtain ⟨u, h1, h2⟩ := er.sl i s hs hn
    rw [hs] at t
    refine ⟨u, h1, k s.lend u F H (by omega) ?_ ⟨er.refl, ?_, ?_⟩⟩
    · cases s <;> first | exact t | exact absurd rfl hn
    · cases s with
      | ow c ds =>
        obtain ⟨p, us, e, q, _, r⟩ := h2
        exact ⟨p, us, e, q, r⟩
      | _ => exact h2
    · cases s with
      | ow c ds =>
        intro p e
        subst e
        exact (er.fr i c ds p hs h1).2
      | bw c ds => exact absurd hs (er.nb i c ds)
      | cell a ns => exact .inl ⟨i, hs⟩
      | _ => trivial
def vC (d : PyData) : TV := fun _ Q => Q (.v d)
theorem ve_c {e : Expr} {v : V} {d : PyData} (h : PE X e (tC v)) (hr : ∀ F H, R1 X.K F H v d) : VE X e (vC d) 0 :=
  ⟨_, h, fun B F H σ ρ Q R er bq t k => k _ v F H (by omega) t ⟨er.refl, hr F H, trivial⟩⟩
theorem ve_int {i j pos} : VE X (.Constant (.int i) j pos) (vC (.int i)) 0 := ve_c pe_int fun _ _ => .int i
theorem ve_bl {b j pos} : VE X (.Constant (.bool b) j pos) (vC (.bool b)) 0 := ve_c pe_bl fun _ _ => .bl b
theorem ve_non {j pos} : VE X (.Constant .none j pos) (vC .none) 0 := ve_c pe_non fun _ _ => .non
theorem ve_str {x j pos} : VE X (.Constant (.str x) j pos) (vC (.str x)) 0 := ve_c pe_str fun _ _ => .str x

/-! ### what an operation on values leaves -/
structure PRes (K : PySem.W.Frag) (F : FS) (H : Hp) (F' : FS) (H' : Hp) (s : SV) (u : V) : Prop where
  ce : F'.ck ≤ F.ck
  st : Stp (fun _ => False) F F' H H'
  dm : FOk F' H'
  sr : SlotR K F' H' u s
  fo : Fo [] H u s
theorem PRes.res (x : Ext ρ F H F1 H1) (r : PRes K F1 H1 F2 H2 s u) (nb : ∀ c ds, s ≠ .bw c ds) : Res K ρ F H F2 H2 s u := by
  refine ⟨x.pure r.st r.dm, r.sr, Fo.back x ?_⟩
  have fo := r.fo
  cases s with
  | ow c ds => exact fo
  | bw c ds => exact absurd rfl (nb c ds)
  | cell a ns =>
    rcases fo with ⟨i, z⟩ | z
    · simp at z
    · exact .inr z
  | _ => trivial
theorem PRes.same (d : FOk F H) {d' : PyData} (h : R1 K F H u d') : PRes K F H F H (.v d') u := ⟨Nat.le_refl _, Stp.refl, d, h, trivial⟩
theorem PRes.newL {p : Addr} {us : List V} {ds : List PyData} (d : FOk F H) (hp : H p = none) (r : RA K F H us ds) : PRes K F H F (upd H p (.lst us)) (.own ds) (.ref p) := by
  refine ⟨Nat.le_refl _, Stp.new hp, d.new hp, ⟨p, us, rfl, upd_same, fun z => ?_, Rp.mono (Stp.new (M := fun _ => False) (F := F) hp).toFM r⟩, fun q e => ?_⟩
  · obtain ⟨xs, e, _⟩ := d p z
    rw [hp] at e; cases e
  · cases e; exact hp
theorem PRes.newT {p : Addr} {o : Obj} {us : List V} {ds : List PyData} (d : FOk F H) (nd : o.dict = none) (hp : H p = none) (r : RA K F H us ds) : PRes K F H F (upd H p (.frz o (.tup us))) (.v (.tuple ds)) (.ref p) :=
  ⟨Nat.le_refl _, Stp.new hp, d.new hp, .tup (SqN.new nd) (Rp.mono (Stp.new (M := fun _ => False) (F := F) hp).toFM r), trivial⟩

/-- no result of an operation is lent -/
def NoBrw (s : SV) : Prop := ∀ c ds, s ≠ .bw c ds
/-- a two-place operation -/
def OpS (K : PySem.W.Frag) (r : R2) (f : SV → SV → (SV → Prop) → Prop) : Prop := ∀ F H u w a b (Q : SV → Prop) (R : VK), FOk F H → SlotR K F H u a → SlotR K F H w b → f a b Q →
  (∀ s z F' H', Q s → NoBrw s → PRes K F H F' H' s z → R z H') → r u w H R
def vBin (f : SV → SV → (SV → Prop) → Prop) (ta tb : TV) : TV := fun ρ Q => ta ρ fun a => tb ρ fun b => f a b Q
theorem bin_go {κ1 κ2 : Nat} {r : R2} {f : SV → SV → (SV → Prop) → Prop} {ta tb : TV} {tea teb : TE} (hs : OpS X.K r f)
    (ha : RE X ta κ1 tea)
    (hb : RE X tb κ2 teb) :
    RE X (vBin f ta tb) (κ1 + κ2) (tOp r tea teb) := by
  intro B F H σ ρ Q R er bq t k
  refine ha B F H σ ρ _ _ er (by omega) t fun a u F1 H1 c1 q1 r1 => ?_
  refine hb B F1 H1 σ ρ _ _ (er.step r1.toExt) (by omega) q1 fun b w F2 H2 c2 q2 r2 => ?_
  refine hs F2 H2 u w a b Q R r2.dm (r1.sr.keep r1.fo er.refl.cp r2.toExt) r2.sr q2 fun s z F3 H3 q3 nb r3 => ?_
  have c3 := r3.ce
  exact k s z F3 H3 (by omega) q3 (r3.res (r1.toExt.trans r2.toExt) nb)
theorem ve_bin {κ1 κ2 : Nat} {op : Operator} {r : R2} {f : SV → SV → (SV → Prop) → Prop} {ta tb : TV} {a b : Expr} {pos : Pos} (ho : OpR X (binaryOp op) r) (hs : OpS X.K r f) (ha : VE X a ta κ1) (hb : VE X b tb κ2) :
    VE X (.BinOp a op b pos) (vBin f ta tb) (κ1 + κ2) := by
  obtain ⟨tea, pa, ga⟩ := ha
  obtain ⟨teb, pb, gb⟩ := hb
  exact ⟨_, pe_op ho pa pb, bin_go hs ga gb⟩
theorem ve_cmp {κ1 κ2 : Nat} {op : CmpOp} {r : R2} {f : SV → SV → (SV → Prop) → Prop} {ta tb : TV} {a b : Expr} {pos : Pos} (ho : OpR X (compareOp op) r) (hs : OpS X.K r f) (ha : VE X a ta κ1) (hb : VE X b tb κ2)
    (hm : behindInMarks op b = false) : VE X (.Compare a [op] [b] pos) (vBin f ta tb) (κ1 + κ2) := by
  obtain ⟨tea, pa, ga⟩ := ha
  obtain ⟨teb, pb, gb⟩ := hb
  exact ⟨_, pe_cmpR ho pa pb hm, bin_go hs ga gb⟩
theorem ve_ix {κ1 κ2 : Nat} {r : R2} {f : SV → SV → (SV → Prop) → Prop} {ta tb : TV} {a b : Expr} {pos : Pos} (ho : IxR X r) (hs : OpS X.K r f) (ha : VE X a ta κ1) (hb : VE X b tb κ2) (hx : PlainIx b) :
    VE X (.Subscript a b pos) (vBin f ta tb) (κ1 + κ2) := by
  obtain ⟨tea, pa, ga⟩ := ha
  obtain ⟨teb, pb, gb⟩ := hb
  exact ⟨_, pe_ix ho pa pb hx, bin_go hs ga gb⟩

/-! ### tests -/
def vTest (t : TV) : TVb := fun ρ Q => t ρ fun s => ∃ b, s = .v (.bool b) ∧ Q b
theorem bool_of {b : Bool} (h : SlotR K F H u (.v (.bool b))) : u = .bl b := by
  cases (show R1 K F H u (.bool b) from h) with
  | bl b => rfl
theorem vt_cmp {κ1 κ2 : Nat} {op : CmpOp} {r : R2} {f : SV → SV → (SV → Prop) → Prop} {ta tb : TV} {a b : Expr} {pos : Pos} (ho : OpR X (compareOp op) r) (hs : OpS X.K r f) (ha : VE X a ta κ1) (hb : VE X b tb κ2)
    (hm : behindInMarks op b = false) : VT X (.Compare a [op] [b] pos) (vTest (vBin f ta tb)) (κ1 + κ2) := by
  obtain ⟨tea, pa, ga⟩ := ha
  obtain ⟨teb, pb, gb⟩ := hb
  refine ⟨_, pt_cmpR ho pa pb hm, fun B F H σ ρ Q R er bq t k => ?_⟩
  refine bin_go hs ga gb B F H σ ρ _ _ er (by omega) t fun s u F' H' cq ⟨c, e, q⟩ r => ?_
  subst e
  exact ⟨c, bool_of r.sr, k c F' H' (by omega) q r.toExt⟩
theorem vt_val {κ1 : Nat} {e : Expr} {t : TV} (h : VE X e t κ1) (he : ∀ whole, isTrue e X.env whole = (do let v ← whole; standAt e.pos; holding [v] (truthy v))) : VT X e (vTest t) κ1 := by
  obtain ⟨te, pe, g⟩ := h
  refine ⟨_, pt_val pe he, fun B F H σ ρ Q R er bq t k => ?_⟩
  refine g B F H σ ρ _ _ er (by omega) t fun s u F' H' cq ⟨c, e, q⟩ r => ?_
  subst e
  exact ⟨c, bool_of r.sr, k c F' H' (by omega) q r.toExt⟩
theorem vt_not {κ1 : Nat} {e : Expr} {t : TVb} {pos : Pos} (h : VT X e t κ1) : VT X (.UnaryOp .Not e pos) (fun ρ Q => t ρ fun b => Q (!b)) κ1 := by
  obtain ⟨te, pe, g⟩ := h
  exact ⟨_, pt_not pe, fun B F H σ ρ Q R er bq t k => g B F H σ ρ _ _ er (by omega) t fun b F' H' cq q x => k _ F' H' (by omega) q x⟩
theorem vw_pt {κ1 : Nat} {e : Expr} {t : TVb} (h : VW X e t κ1) : VT X e t κ1 := by
  obtain ⟨te, pe, g⟩ := h
  exact ⟨te, pe.pt, g⟩
theorem vw_one {κ1 : Nat} {op : BoolOp} {a : Expr} {t : TVb} {pos : Pos} (h : VT X a t κ1) (hop : op = .And ∨ op = .Or := by first | exact .inl rfl | exact .inr rfl) : VW X (.BoolOp op [a] pos) t κ1 := by
  obtain ⟨te, pe, g⟩ := h
  rcases hop with e | e
  · subst e; exact ⟨te, pw_and1 pe, g⟩
  · subst e; exact ⟨te, pw_or1 pe, g⟩
def vAnd (t u : TVb) : TVb := fun ρ Q => t ρ fun b => if b = true then u ρ Q else Q false
def vOr (t u : TVb) : TVb := fun ρ Q => t ρ fun b => if b = true then Q true else u ρ Q
theorem vw_and {κ1 κ2 : Nat} {a b : Expr} {rest : List Expr} {t u : TVb} {pos : Pos} (ha : VT X a t κ1) (hb : VW X (.BoolOp .And (b :: rest) pos) u κ2) : VW X (.BoolOp .And (a :: b :: rest) pos) (vAnd t u) (κ1 + κ2) := by
  obtain ⟨te, pa, ga⟩ := ha
  obtain ⟨ue, pb, gb⟩ := hb
  refine ⟨_, pw_and pa pb, fun B F H σ ρ Q R er bq t k => ?_⟩
  refine ga B F H σ ρ _ _ er (by omega) t fun b F' H' cq q x => ?_
  cases b with
  | true => exact gb B F' H' σ ρ _ _ (er.step x) (by omega) q fun b2 F2 H2 cq q2 x2 => k _ F2 H2 (by omega) q2 (x.trans x2)
  | false => exact k _ F' H' (by omega) q x
theorem vw_or {κ1 κ2 : Nat} {a b : Expr} {rest : List Expr} {t u : TVb} {pos : Pos} (ha : VT X a t κ1) (hb : VW X (.BoolOp .Or (b :: rest) pos) u κ2) : VW X (.BoolOp .Or (a :: b :: rest) pos) (vOr t u) (κ1 + κ2) := by
  obtain ⟨te, pa, ga⟩ := ha
  obtain ⟨ue, pb, gb⟩ := hb
  refine ⟨_, pw_or pa pb, fun B F H σ ρ Q R er bq t k => ?_⟩
  refine ga B F H σ ρ _ _ er (by omega) t fun b F' H' cq q x => ?_
  cases b with
  | false => exact gb B F' H' σ ρ _ _ (er.step x) (by omega) q fun b2 F2 H2 cq q2 x2 => k _ F2 H2 (by omega) q2 (x.trans x2)
  | true => exact k _ F' H' (by omega) q x
/-- and, or, not as values -/
def isB (s : SV) (P : Bool → Prop) : Prop := ∃ b, s = .v (.bool b) ∧ P b
def vAndV (t u : TV) : TV := fun ρ Q => t ρ fun s => isB s fun b => if b = true then u ρ Q else Q (.v (.bool false))
def vOrV (t u : TV) : TV := fun ρ Q => t ρ fun s => isB s fun b => if b = true then Q (.v (.bool true)) else u ρ Q
def vNotV (t : TV) : TV := fun ρ Q => t ρ fun s => isB s fun b => Q (.v (.bool (!b)))
theorem ve_one {κ1 : Nat} {op : BoolOp} {a : Expr} {t : TV} {pos : Pos} (h : VE X a t κ1) : VE X (.BoolOp op [a] pos) t κ1 := by
  obtain ⟨te, pe, g⟩ := h
  exact ⟨te, pe_one pe, g⟩
theorem ve_and {κ1 κ2 : Nat} {a b : Expr} {rest : List Expr} {t u : TV} {pos : Pos} (ha : VE X a t κ1) (hb : VE X (.BoolOp .And (b :: rest) pos) u κ2) : VE X (.BoolOp .And (a :: b :: rest) pos) (vAndV t u) (κ1 + κ2) := by
  obtain ⟨te, pa, ga⟩ := ha
  obtain ⟨ue, pb, gb⟩ := hb
  refine ⟨_, pe_and pa pb, fun B F H σ ρ Q R er bq t k => ?_⟩
  refine ga B F H σ ρ _ _ er (by omega) t fun s v F' H' cq ⟨b, e, q⟩ x => ?_
  subst e
  refine ⟨b, bool_of x.sr, ?_⟩
  cases b with
  | true => exact gb B F' H' σ ρ _ _ (er.step x.toExt) (by omega) q fun s2 u2 F2 H2 cq q2 x2 => k _ _ F2 H2 (by omega) q2 (x2.trans x.toExt)
  | false => exact k _ _ F' H' (by omega) q ⟨x.toExt, .bl false, trivial⟩
theorem ve_or {κ1 κ2 : Nat} {a b : Expr} {rest : List Expr} {t u : TV} {pos : Pos} (ha : VE X a t κ1) (hb : VE X (.BoolOp .Or (b :: rest) pos) u κ2) : VE X (.BoolOp .Or (a :: b :: rest) pos) (vOrV t u) (κ1 + κ2) := by
  obtain ⟨te, pa, ga⟩ := ha
  obtain ⟨ue, pb, gb⟩ := hb
  refine ⟨_, pe_or pa pb, fun B F H σ ρ Q R er bq t k => ?_⟩
  refine ga B F H σ ρ _ _ er (by omega) t fun s v F' H' cq ⟨b, e, q⟩ x => ?_
  subst e
  refine ⟨b, bool_of x.sr, ?_⟩
  cases b with
  | false => exact gb B F' H' σ ρ _ _ (er.step x.toExt) (by omega) q fun s2 u2 F2 H2 cq q2 x2 => k _ _ F2 H2 (by omega) q2 (x2.trans x.toExt)
  | true => exact k _ _ F' H' (by omega) q ⟨x.toExt, .bl true, trivial⟩
theorem ve_not {κ1 : Nat} {a : Expr} {t : TV} {pos : Pos} (h : VE X a t κ1) : VE X (.UnaryOp .Not a pos) (vNotV t) κ1 := by
  obtain ⟨te, pe, g⟩ := h
  refine ⟨_, pe_not pe, fun B F H σ ρ Q R er bq t k => ?_⟩
  refine g B F H σ ρ _ _ er (by omega) t fun s v F' H' cq ⟨b, e, q⟩ x => ?_
  subst e
  exact ⟨b, bool_of x.sr, k _ _ F' H' (by omega) q ⟨x.toExt, .bl _, trivial⟩⟩
def vIf (c : TVb) (t u : TV) : TV := fun ρ Q => c ρ fun b => if b = true then t ρ Q else u ρ Q
theorem ve_if {κ1 κ2 κ3 : Nat} {c a b : Expr} {tc : TVb} {t u : TV} {pos : Pos} (hc : VT X c tc κ1) (ha : VE X a t κ2) (hb : VE X b u κ3) : VE X (.IfExp c a b pos) (vIf tc t u) (κ1 + κ2 + κ3) := by
  obtain ⟨tce, pc, gc⟩ := hc
  obtain ⟨te, pa, ga⟩ := ha
  obtain ⟨ue, pb, gb⟩ := hb
  refine ⟨_, pe_ifExp pc pa pb, fun B F H σ ρ Q R er bq t k => ?_⟩
  refine gc B F H σ ρ _ _ er (by omega) t fun b F' H' cq q x => ?_
  cases b with
  | true => exact ga B F' H' σ ρ _ _ (er.step x) (by omega) q fun s2 u2 F2 H2 cq q2 x2 => k _ _ F2 H2 (by omega) q2 (x2.trans x)
  | false => exact gb B F' H' σ ρ _ _ (er.step x) (by omega) q fun s2 u2 F2 H2 cq q2 x2 => k _ _ F2 H2 (by omega) q2 (x2.trans x)

/-! ### rows of expressions -/
def vNil : TVs := fun _ Q => Q []
def vCons (t : TV) (r : TVs) : TVs := fun ρ Q => t ρ fun s => r ρ fun ss => Q (s :: ss)
theorem va_nil : VA X [] vNil 0 := ⟨_, pa_nil, fun B F H σ ρ Q R er bq t k => k [] [] F H (by omega) t er.refl trivial⟩
theorem va_cons {κ1 κ2 : Nat} {e : Expr} {es : List Expr} {t : TV} {r : TVs} (h : VE X e t κ1) (hr : VA X es r κ2) (hs : starEach (e :: es) X.env = (false, eval e X.env) :: starEach es X.env) : VA X (e :: es) (vCons t r) (κ1 + κ2) := by
  obtain ⟨te, pe, g⟩ := h
  obtain ⟨ta, pa, ga⟩ := hr
  refine ⟨_, pa_cons pe pa hs, fun B F H σ ρ Q R er bq t k => ?_⟩
  refine g B F H σ ρ _ _ er (by omega) t fun s u F1 H1 cq q1 r1 => ?_
  refine ga B F1 H1 σ ρ _ _ (er.step r1.toExt) (by omega) q1 fun ss us F2 H2 cq q2 x2 a2 => ?_
  refine k (s :: ss) (u :: us) F2 H2 (by omega) q2 (r1.toExt.trans x2) ⟨r1.sr.keep r1.fo er.refl.cp x2, r1.fo, ?_⟩
  clear k q2 q1
  induction us generalizing ss with
  | nil =>
    cases ss with
    | nil => trivial
    | cons _ _ => exact a2.elim
  | cons v vs ih =>
    cases ss with
    | nil => exact a2.elim
    | cons z zs => exact ⟨a2.1, a2.2.1.back r1.toExt, ih zs a2.2.2⟩
/-- what is stored, handed on: data, the feed; a list of one's own is frozen then -/
def CT.fro : CT → List PyData → SV
  | .lst, ds => .v (.list ds)
  | .K ks, ds => .v (.dict ((ks.zip ds).map fun kv => (kD kv.1, kv.2)))
  | .T ks, ds => .fz ks ds
theorem CT.fro_ow {c c' : CT} {ds es : List PyData} : c.fro ds ≠ .ow c' es := by cases c <;> exact fun z => nomatch z
theorem CT.fro_bw {c c' : CT} {ds es : List PyData} : c.fro ds ≠ .bw c' es := by cases c <;> exact fun z => nomatch z
theorem CT.fro_cell {c : CT} {ds : List PyData} {a : Addr} {ns : Cel} : c.fro ds ≠ .cell a ns := by cases c <;> exact fun z => nomatch z
theorem CT.fro_sl {c : CT} {ds : List PyData} {us : List V} {p : Addr} (f : F p) (q : H p = some (c.ho us)) (r : RA K F H us ds) : SlotR K F H (.ref p) (c.fro ds) := by
  cases c with
  | lst => exact .lst f q r
  | K ks => exact .dic f q r
  | T ks => exact ⟨p, us, rfl, f, q, r⟩
def SV.hand : SV → Option SV
  | .v d => some (.v d)
  | .ow c ds => some (c.fro ds)
  | .fz ks ds => some (.fz ks ds)
  | .cell a ns => some (.cell a ns)
  | .scr ns => some (.scr ns)
  | .dct kvs => some (.dct kvs)
  | .fns kvs => some (.fns kvs)
  | _ => none
def hands : List SV → Option (List SV)
  | [] => some []
  | s :: ss => match s.hand, hands ss with
    | some t, some ts => some (t :: ts)
    | _, _ => none
/-- the addresses of one's own lists -/
def ownsIn : List V → List SV → Addr → Prop
  | .ref p :: us, .ow _ _ :: ss => fun a => a = p ∨ ownsIn us ss a
  | _ :: us, _ :: ss => ownsIn us ss
  | _, _ => fun _ => False
theorem ownsIn_sub {us : List V} {ss : List SV} {u : V} {s : SV} {a : Addr} (h : ownsIn us ss a) : ownsIn (u :: us) (s :: ss) a := by
  cases u <;> cases s <;> first | exact h | exact .inr h
theorem AllR.owns : ∀ {us : List V} {ss : List SV}, AllR K ρ F H1 H us ss → ∀ a, ownsIn us ss a → H a = none ∧ ∃ o, H1 a = some o ∧ LD o
  | [], _, _, a, h => by cases ‹List SV› <;> exact h.elim
  | _ :: _, [], h, _, _ => h.elim
  | u :: us, s :: ss, ⟨h1, h2, h3⟩, a, h => by
    have old : ownsIn us ss a → H a = none ∧ ∃ o, H1 a = some o ∧ LD o := AllR.owns h3 a
    cases s with
    | ow c ds =>
      obtain ⟨p, xs, rfl, e, _⟩ := h1
      rcases h with rfl | h
      · exact ⟨h2 _ rfl, _, e, c.ld xs⟩
      · exact old h
    | fz ks ds => exact old (by cases u <;> exact h)
    | un => exact old (by cases u <;> exact h)
    | v d => exact old (by cases u <;> exact h)
    | bw c ds => exact old (by cases u <;> exact h)
    | cell b ns => exact old (by cases u <;> exact h)
    | scr ns => exact old (by cases u <;> exact h)
    | dct kvs => exact old (by cases u <;> exact h)
    | fns kvs => exact old (by cases u <;> exact h)
/-- slots of things that were handed on -/
def AllH (K : PySem.W.Frag) (F : FS) (H : Hp) : List V → List SV → Prop
  | [], [] => True
  | u :: us, s :: ss => SlotR K F H u s ∧ AllH K F H us ss
  | _, _ => False
theorem SlotR.grow {N : Addr → Prop} (hn : ∀ a, N a → ¬ cellsOf ρ a ∧ H a = none) (cp : ∀ (i : Nat) (a : Addr) (ns : Cel), ρ[i]? = some (SV.cell a ns) → CI F1 H1 a ns) (h : SlotR K F1 H1 u s) (fo : Fo ρ H u s) {t : SV} (e : s.hand = some t)
    (ho : ∀ c ds p, s = .ow c ds → u = .ref p → N p) (hc : ∀ a ns, s = .cell a ns → ¬ N a) : SlotR K (F1.or N) H1 u t := by
  cases s with
  | un => cases e
  | v d => cases e; exact Rp.mono FM.grow h
  | ow c ds =>
    cases e
    obtain ⟨p, us, rfl, q, _, r⟩ := h
    exact CT.fro_sl (F := F1.or N) (.inr (ho c ds p rfl rfl)) q (Rp.mono FM.grow r)
  | fz ks ds =>
    cases e
    obtain ⟨p, us, rfl, f, q, r⟩ := h
    exact ⟨p, us, rfl, .inl f, q, Rp.mono FM.grow r⟩
  | bw c ds => cases e
  | cell a ns =>
    cases e
    obtain ⟨rfl, nf, c, i, l, n, e1, e2, e3⟩ := h
    exact ⟨rfl, fun z => z.elim nf (hc a ns rfl), c, i, l, n, e1, .inl e2, e3⟩
  | scr ns =>
    cases e
    exact h
  | dct kvs =>
    cases e
    obtain ⟨p, us, rfl, f, q, k, r⟩ := h
    exact ⟨p, us, rfl, .inl f, q, k, Rp.mono FM.grow r⟩
  | fns kvs =>
    cases e
    obtain ⟨p, rfl, f, q⟩ := h
    exact ⟨p, rfl, .inl f, q⟩
/-- handing on: the new lists among them are frozen -/
theorem hand_all (x : Ext ρ F H F1 H1) : ∀ {us : List V} {ss : List SV} {ts : List SV} {N : Addr → Prop} (_ : AllR K ρ F1 H1 H us ss) (_ : hands ss = some ts)
    (_ : ∀ a, N a → H a = none ∧ ∃ o, H1 a = some o ∧ LD o) (_ : ∀ a, ownsIn us ss a → N a) (_ : ∀ a ns, SV.cell a ns ∈ ss → ¬ N a), AllH K (F1.or N) H1 us ts
  | [], [], ts, N, _, e, _, _, _ => by cases e; trivial
  | [], _ :: _, _, _, h, _, _, _, _ => h.elim
  | _ :: _, [], _, _, h, _, _, _, _ => h.elim
  | u :: us, s :: ss, ts, N, ⟨h1, h2, h3⟩, e, hN, ho, hc => by
    unfold hands at e
    rcases e1 : s.hand with _ | t
    · rw [e1] at e; cases e
    · rcases e2 : hands ss with _ | ts'
      · rw [e1, e2] at e; cases e
      · rw [e1, e2] at e
        cases e
        refine ⟨SlotR.grow (ρ := ρ) (H := H) (fun a z => ⟨fun q => x.cp a q (hN a z).1, (hN a z).1⟩) x.cl h1 h2 e1 (fun c ds p q1 q2 => ?_) (fun a ns q z => ?_), hand_all x h3 e2 hN (fun a z => ho a (ownsIn_sub z)) fun a ns z => hc a ns (List.mem_cons_of_mem _ z)⟩
        · subst q1 q2
          exact ho p (.inl rfl)
        · subst q
          exact hc a ns (List.mem_cons_self ..) z
theorem Ext.frz {N : Addr → Prop} (x : Ext ρ F H F1 H1) (hN : ∀ a, N a → H a = none ∧ ∃ o, H1 a = some o ∧ LD o) : Ext ρ F H (F1.or N) H1 :=
  ⟨x.st.frz fun a z => (hN a z).1, fun a z => z.elim (x.dm a) fun q => (hN a q).2, fun i a ns h => by
    obtain ⟨nf, c, j, l, n, e1, e2, e3⟩ := x.cl i a ns h
    refine ⟨fun z => z.elim nf fun q => x.cp a ⟨i, ns, h⟩ (hN a q).1, c, j, l, n, e1, .inl e2, e3⟩, x.cp⟩
/-- all data -/
def datas : List SV → Option (List PyData)
  | [] => some []
  | .v d :: ss => (datas ss).map (d :: ·)
  | _ :: _ => none
theorem AllH.ra : ∀ {us : List V} {ts : List SV} {ds : List PyData}, AllH K F H us ts → datas ts = some ds → RA K F H us ds
  | [], [], _, _, e => by cases e; exact .nil
  | [], _ :: _, _, h, _ => h.elim
  | _ :: _, [], _, h, _ => h.elim
  | u :: us, .v d :: ts, _, ⟨h1, h2⟩, e => by
    unfold datas at e
    rcases e2 : datas ts with _ | ds
    · rw [e2] at e; cases e
    · rw [e2] at e
      cases e
      exact .cons h1 (AllH.ra h2 e2)
  | _ :: _, .un :: _, _, _, e => by cases e
  | _ :: _, .ow _ _ :: _, _, _, e => by cases e
  | _ :: _, .bw _ _ :: _, _, _, e => by cases e
  | _ :: _, .fz _ _ :: _, _, _, e => by cases e
  | _ :: _, .cell _ _ :: _, _, _, e => by cases e
  | _ :: _, .scr _ :: _, _, _, e => by cases e
  | _ :: _, .dct _ :: _, _, _, e => by cases e
  | _ :: _, .fns _ :: _, _, _, e => by cases e
def datasIn (ss : List SV) : Option (List PyData) := (hands ss).bind datas
theorem datas_noc : ∀ {ss ts : List SV} {ds : List PyData}, hands ss = some ts → datas ts = some ds → ∀ a ns, SV.cell a ns ∉ ss
  | [], _, _, _, _, _, _, h => by cases h
  | s :: ss, ts, ds, e, e2, a, ns, h => by
    unfold hands at e
    rcases e1 : s.hand with _ | t
    · rw [e1] at e; cases e
    · rcases e3 : hands ss with _ | ts'
      · rw [e1, e3] at e; cases e
      · rw [e1, e3] at e
        cases e
        cases t <;> first | (cases e2; done) | skip
        rename_i d
        unfold datas at e2
        rcases e4 : datas ts' with _ | ds'
        · rw [e4] at e2; cases e2
        · rcases List.mem_cons.mp h with h | h
          · subst h
            cases e1
          · exact datas_noc e3 e4 a ns h
theorem data_all (x : Ext ρ F H F1 H1) {us : List V} {ss : List SV} {ds : List PyData} (h : AllR K ρ F1 H1 H us ss) (e : datasIn ss = some ds) :
    ∃ F2, F2.ck = F1.ck ∧ Ext ρ F H F2 H1 ∧ RA K F2 H1 us ds := by
  unfold datasIn at e
  rcases e1 : hands ss with _ | ts
  · rw [e1] at e; cases e
  · rw [e1] at e
    have hN := AllR.owns h
    exact ⟨F1.or (ownsIn us ss), rfl, x.frz hN, (hand_all x h e1 hN (fun a z => z) fun a ns z => absurd z (datas_noc e1 e a _)).ra e⟩
/-- (a, b, ..) -/
def vTup (t : TVs) : TV := fun ρ Q => t ρ fun ss => ∃ ds, datasIn ss = some ds ∧ ds.length ≤ 100000 ∧ Q (.v (.tuple ds))
def vLst (t : TVs) : TV := fun ρ Q => t ρ fun ss => ∃ ds, datasIn ss = some ds ∧ ds.length ≤ 100000 ∧ Q (.own ds)
theorem small {n : Nat} (h : n ≤ 100000) : n ≤ sizeLine := Nat.le_trans h (by decide)
theorem ve_tup {κ1 : Nat} {es : List Expr} {t : TVs} {c} {pos : Pos} (h : VA X es t κ1) : VE X (.Tuple es c pos) (vTup t) κ1 := by
  obtain ⟨ta, pa, g⟩ := h
  refine ⟨_, pe_tupN pa, fun B F H σ ρ Q R er bq t k => ?_⟩
  refine g B F H σ ρ _ _ er (by omega) t fun ss us F1 H1 cq ⟨ds, e, hz, q⟩ x a => ?_
  obtain ⟨F2, ce, x2, ra⟩ := data_all x a e
  exact ⟨small (by rw [ra.len]; exact hz), fun p o nd hp => k _ _ _ _ (by omega) q ((PRes.newT x2.dm nd hp ra).res x2 fun _ _ z => nomatch z)⟩
theorem ve_lst {κ1 : Nat} {es : List Expr} {t : TVs} {pos : Pos} (h : VA X es t κ1) : VE X (.List es pos) (vLst t) κ1 := by
  obtain ⟨ta, pa, g⟩ := h
  refine ⟨_, pe_lst pa, fun B F H σ ρ Q R er bq t k => ?_⟩
  refine g B F H σ ρ _ _ er (by omega) t fun ss us F1 H1 cq ⟨ds, e, hz, q⟩ x a => ?_
  obtain ⟨F2, ce, x2, ra⟩ := data_all x a e
  exact ⟨small (by rw [ra.len]; exact hz), fun p hp => k _ _ _ _ (by omega) q ((PRes.newL x2.dm hp ra).res x2 fun _ _ z => nomatch z)⟩
end
end VL
namespace VL
open PySem PySem.Spec PyProof.Rows L2 VG

section
variable {K : PySem.W.Frag} {B : Bas} {F F' : FS} {H H' : Hp} {σ : Hs} {ρ : Env} {s : SV} {u : V}
theorem getElem?_set_eq {α : Type} {l : List α} {i : Nat} {a b : α} (h : (l.set i a)[i]? = some b) : b = a := by
  rw [List.getElem?_set_self'] at h
  rcases e : l[i]? with _ | x
  · rw [e] at h; simp at h
  · rw [e] at h; simp at h; exact h.symm
theorem cells_set {i : Nat} {a : Addr} (h : cellsOf (ρ.set i s) a) : cellsOf ρ a ∨ ∃ ns, s = .cell a ns := by
  obtain ⟨j, ns, e⟩ := h
  by_cases z : j = i
  · subst z
    exact .inr ⟨ns, (getElem?_set_eq e).symm⟩
  · rw [List.getElem?_set_ne (Ne.symm z)] at e
    exact .inl ⟨j, ns, e⟩
/-- a result is stored in a slot -/
theorem ER.set (er : ER K B F H σ ρ) {F' : FS} {H' : Hp} (x : Res K ρ F H F' H' s u) (nb : NoBrw s) (i : Nat) : ER K B F' H' (σ.set i (some u)) (ρ.set i s) := by
  have e1 := er.step x.toExt
  have hlen := er.len
  have at_ : ∀ {j : Nat} {t : SV}, (ρ.set i s)[j]? = some t → (j = i ∧ t = s ∧ i < ρ.length) ∨ (j ≠ i ∧ ρ[j]? = some t) := fun {j t} h => by
    by_cases z : j = i
    · subst z
      refine .inl ⟨rfl, getElem?_set_eq h, ?_⟩
      have := (List.getElem?_eq_some_iff.mp h).1
      simpa using this
    · rw [List.getElem?_set_ne (Ne.symm z)] at h
      exact .inr ⟨z, h⟩
  have at2 : ∀ {j : Nat}, j ≠ i → (σ.set i (some u))[j]? = σ[j]? := fun {j} z => List.getElem?_set_ne (Ne.symm z)
  have at1 : i < ρ.length → (σ.set i (some u))[i]? = some (some u) := fun z => List.getElem?_set_self (by omega)
  have newp : ∀ c ds p, s = .ow c ds → u = .ref p → H p = none := fun c ds p e z => by
    subst e
    exact x.fo p z
  refine ⟨by simp [hlen], fun j t h hn => ?_, fun j c ds h => ?_, fun j k c c' ds es p h1 h2 h3 h4 => ?_, fun j c ds p h1 h2 => ?_, fun a h => ?_, e1.bs, e1.kb, e1.pin, e1.dm⟩
  · rcases at_ h with ⟨rfl, rfl, z⟩ | ⟨z, q⟩
    · exact ⟨u, at1 z, x.sr⟩
    · obtain ⟨w, q1, q2⟩ := e1.sl j t q hn
      exact ⟨w, (at2 z).trans q1, q2⟩
  · rcases at_ h with ⟨_, q, _⟩ | ⟨z, q⟩
    · exact nb c ds q.symm
    · exact er.nb j c ds q
  · rcases at_ h1 with ⟨rfl, q1, z1⟩ | ⟨z1, q1⟩ <;> rcases at_ h2 with ⟨rfl, q2, z2⟩ | ⟨z2, q2⟩
    · rfl
    · rw [at1 z1] at h3
      rw [at2 z2] at h4
      have hp := newp c ds p q1.symm (by injection h3 with h3; injection h3)
      obtain ⟨w, q3, p', us, q4, q5, _⟩ := er.sl k _ q2 (fun z => nomatch z)
      rw [q3] at h4
      injection h4 with h4; injection h4 with h4; subst h4
      injection q4 with q4; subst q4
      rw [hp] at q5; cases q5
    · rw [at1 z2] at h4
      rw [at2 z1] at h3
      have hp := newp c' es p q2.symm (by injection h4 with h4; injection h4)
      obtain ⟨w, q3, p', us, q4, q5, _⟩ := er.sl j _ q1 (fun z => nomatch z)
      rw [q3] at h3
      injection h3 with h3; injection h3 with h3; subst h3
      injection q4 with q4; subst q4
      rw [hp] at q5; cases q5
    · rw [at2 z1] at h3
      rw [at2 z2] at h4
      exact er.ow j k c c' ds es p q1 q2 h3 h4
  · have cellsN : ∀ {q : Addr}, cellsOf (ρ.set i s) q → H q = none → (∃ ns, s = .cell q ns) := fun {q} c n => by
      rcases cells_set c with c | c
      · exact absurd n (x.cp q c)
      · exact c
    rcases at_ h1 with ⟨rfl, q1, z1⟩ | ⟨z1, q1⟩
    · rw [at1 z1] at h2
      have hp := newp c ds p q1.symm (by injection h2 with h2; injection h2)
      refine ⟨?_, fun c => ?_⟩
      · by_cases z : B.H0 p = none
        · exact z
        · exact absurd hp (er.bs.ex p z)
      · obtain ⟨ns, e⟩ := cellsN c hp
        rw [← q1] at e; cases e
    · rw [at2 z1] at h2
      obtain ⟨f1, f2⟩ := er.fr j c ds p q1 h2
      refine ⟨f1, fun c => ?_⟩
      rcases cells_set c with c | ⟨ns, e⟩
      · exact f2 c
      · subst e
        rcases x.fo with ⟨k, q⟩ | q
        · exact f2 ⟨k, ns, q⟩
        · obtain ⟨w, q3, p', us, q4, q5, _⟩ := er.sl j _ q1 (fun z => nomatch z)
          rw [q3] at h2
          injection h2 with h2; injection h2 with h2; subst h2
          injection q4 with q4; subst q4
          rw [q] at q5; cases q5
  · rcases cells_set h with c | ⟨ns, e⟩
    · exact er.cf a c
    · subst e
      rcases x.fo with ⟨k, q⟩ | q
      · exact er.cf a ⟨k, ns, q⟩
      · refine .inr ?_
        by_cases z : B.H0 a = none
        · exact z
        · exact absurd q (er.bs.ex a z)
/-- a list of one's own changes -/
theorem FM.write {c c' : CT} {p : Addr} {us vs : List V} (hp : H p = some (c.ho us)) (nf : ¬ F p) : FM F F H (upd H p (c'.ho vs)) := by
  have k : ∀ a o, a ≠ p → H a = some o → upd H p (c'.ho vs) a = some o := fun a o n e => by rw [upd_ne n]; exact e
  refine ⟨fun _ h => h, fun a o f e => k a o (fun z => nf (z ▸ f)) e, fun a xs e => k a _ (fun z => ?_) e, fun a o u e => k a _ (fun z => ?_) e⟩
  · rw [z, hp] at e; exact c.nt _ _ (Option.some.inj e)
  · rw [z, hp] at e; exact c.nf _ _ _ (Option.some.inj e)
theorem ER.own (er : ER K B F H σ ρ) {i : Nat} {c : CT} {ds : List PyData} (h : ρ[i]? = some (.ow c ds)) : ∃ p us, σ[i]? = some (some (.ref p)) ∧ H p = some (c.ho us) ∧ ¬ F p ∧ RA K F H us ds := by
  obtain ⟨u, h1, p, us, rfl, h2, h3, h4⟩ := er.sl i _ h (fun z => nomatch z)
  exact ⟨p, us, h1, h2, h3, h4⟩
theorem ER.write (er : ER K B F H σ ρ) {i : Nat} {c0 c1 : CT} {ds es : List PyData} {p : Addr} {us vs : List V} (h : ρ[i]? = some (.ow c0 ds)) (h1 : σ[i]? = some (some (.ref p))) (h2 : H p = some (c0.ho us)) (nf : ¬ F p)
    (r : RA K F H vs es) : ER K B F (upd H p (c1.ho vs)) σ (ρ.set i (.ow c1 es)) := by
  have m : FM F F H (upd H p (c1.ho vs)) := FM.write h2 nf
  have ne : ∀ {j : Nat} {t : SV}, (ρ.set i (.ow c1 es))[j]? = some t → (j = i ∧ t = .ow c1 es) ∨ (j ≠ i ∧ ρ[j]? = some t) := fun {j t} h => by
    by_cases z : j = i
    · subst z
      exact .inl ⟨rfl, getElem?_set_eq h⟩
    · rw [List.getElem?_set_ne (Ne.symm z)] at h
      exact .inr ⟨z, h⟩
  have own_of : ∀ {j : Nat} {c : CT} {xs : List PyData}, (ρ.set i (.ow c1 es))[j]? = some (.ow c xs) → ∃ c' ys, ρ[j]? = some (.ow c' ys) := fun {j c xs} q => by
    rcases ne q with ⟨rfl, _⟩ | ⟨_, q⟩
    · exact ⟨_, _, h⟩
    · exact ⟨_, _, q⟩
  have cells : ∀ {a : Addr}, cellsOf (ρ.set i (.ow c1 es)) a → cellsOf ρ a := fun {a} c => (cells_set c).elim id fun ⟨ns, e⟩ => nomatch e
  obtain ⟨fr1, fr2⟩ := er.fr i c0 ds p h h1
  have ci : ∀ {a : Addr} {ns : Cel}, CI F H a ns → a ≠ p → CI F (upd H p (c1.ho vs)) a ns := fun {a ns} c n1 => by
    obtain ⟨nf', c', j, l, n, e1, e2, e3, cb⟩ := c
    exact ⟨nf', c', j, l, n, by rw [upd_ne n1]; exact e1, e2, m.fk _ _ e2 e3, cb⟩
  have c1 : ∀ {j : Nat} {a : Addr} {ns : Cel}, ρ[j]? = some (.cell a ns) → a ≠ p := fun {j a ns} q z => fr2 (by rw [← z]; exact ⟨j, ns, q⟩)
  have c2 : ∀ {a : Addr} {ns : Cel}, B.c0 a ns → a ≠ p := fun {a ns} q z => (er.kb a ns q).2 (by rw [z]; exact fr1)
  refine ⟨by simp [er.len], fun j t q hn => ?_, fun j c xs q => ?_, fun j k c c' xs ys a q1 q2 q3 q4 => ?_, fun j c xs a q1 q2 => ?_, fun a c => er.cf a (cells c), ?_, fun a ns q => ⟨ci (er.kb a ns q).1 (c2 q), (er.kb a ns q).2⟩, fun a o q => ?_, fun a f => ?_⟩
  · rcases ne q with ⟨rfl, rfl⟩ | ⟨z, q⟩
    · exact ⟨_, h1, p, vs, rfl, upd_same, nf, Rp.mono m r⟩
    · obtain ⟨w, q1, q2⟩ := er.sl j t q hn
      refine ⟨w, q1, ?_⟩
      cases t with
      | un => trivial
      | v d => exact Rp.mono m q2
      | ow c xs =>
        obtain ⟨a, ws, rfl, q3, q4, q5⟩ := q2
        have n1 : a ≠ p := fun e => z (er.ow j i c c0 xs ds p q h (e ▸ q1) h1)
        exact ⟨a, ws, rfl, by rw [upd_ne n1]; exact q3, q4, Rp.mono m q5⟩
      | fz ks ds =>
        obtain ⟨a, us, rfl, f, q3, q4⟩ := q2
        exact ⟨a, us, rfl, m.fr _ f, m.fk _ _ f q3, Rp.mono m q4⟩
      | bw c xs => exact absurd q (er.nb j c xs)
      | cell a ns => exact ⟨q2.1, ci q2.2 (c1 q)⟩
      | scr ns =>
        obtain ⟨a, rfl, q3⟩ := q2
        exact ⟨a, rfl, q3.keep m⟩
      | dct kvs =>
        obtain ⟨a, us, rfl, f, q3, k, q4⟩ := q2
        exact ⟨a, us, rfl, m.fr _ f, m.fk _ _ f q3, k, Rp.mono m q4⟩
      | fns kvs =>
        obtain ⟨a, rfl, f, q3⟩ := q2
        exact ⟨a, rfl, m.fr _ f, m.fk _ _ f q3⟩
  · rcases ne q with ⟨_, e⟩ | ⟨_, q⟩
    · cases e
    · exact er.nb j c xs q
  · obtain ⟨_, _, q1⟩ := own_of q1
    obtain ⟨_, _, q2⟩ := own_of q2
    exact er.ow j k _ _ _ _ a q1 q2 q3 q4
  · obtain ⟨_, _, q1⟩ := own_of q1
    obtain ⟨f1, f2⟩ := er.fr j _ _ a q1 q2
    exact ⟨f1, fun c => f2 (cells c)⟩
  · have b := er.bs
    refine ⟨b.toFM.trans m, fun a o q c => ?_, fun a q => ?_, b.nw, b.ck⟩
    · have n1 : a ≠ p := fun z => by rw [z, fr1] at q; cases q
      rw [upd_ne n1]
      exact b.kp a o q c
    · by_cases z : a = p
      · rw [z, upd_same]; exact fun z => nomatch z
      · rw [upd_ne z]; exact b.ex a q
  · obtain ⟨q1, q2⟩ := er.pin a o q
    refine ⟨?_, q2⟩
    have n1 : a ≠ p := fun z => by
      subst z
      rw [h2] at q1
      have e := Option.some.inj q1
      subst e
      rcases q2 with f | ⟨_, e⟩ | ⟨_, _, e⟩
      · exact nf f
      · exact c0.nt _ _ e
      · exact c0.nf _ _ _ e
    rw [upd_ne n1]; exact q1
  · obtain ⟨xs, e, l⟩ := er.dm a f
    exact ⟨xs, m.fk a _ f e, l⟩
/-- a list of one's own is frozen -/
theorem ER.freeze (er : ER K B F H σ ρ) {i : Nat} {c0 : CT} {ds : List PyData} (h : ρ[i]? = some (.ow c0 ds)) : ∃ F', F'.ck = F.ck ∧ ER K B F' H σ (ρ.set i (c0.fro ds)) := by
  obtain ⟨p, us, h1, h2, nf, r⟩ := er.own h
  obtain ⟨fr1, fr2⟩ := er.fr i c0 ds p h h1
  have m : FM F (F.or (fun x => x = p)) H H := FM.grow
  have ne : ∀ {j : Nat} {t : SV}, (ρ.set i (c0.fro ds))[j]? = some t → (j = i ∧ t = c0.fro ds) ∨ (j ≠ i ∧ ρ[j]? = some t) := fun {j t} h => by
    by_cases z : j = i
    · subst z
      exact .inl ⟨rfl, getElem?_set_eq h⟩
    · rw [List.getElem?_set_ne (Ne.symm z)] at h
      exact .inr ⟨z, h⟩
  have own_of : ∀ {j : Nat} {c : CT} {xs : List PyData}, (ρ.set i (c0.fro ds))[j]? = some (.ow c xs) → j ≠ i ∧ ρ[j]? = some (.ow c xs) := fun {j c xs} q => by
    rcases ne q with ⟨rfl, e⟩ | q
    · exact absurd e.symm CT.fro_ow
    · exact q
  have cells : ∀ {a : Addr}, cellsOf (ρ.set i (c0.fro ds)) a → cellsOf ρ a := fun {a} c => (cells_set c).elim id fun ⟨ns, e⟩ => absurd e CT.fro_cell
  have ci : ∀ {a : Addr} {ns : Cel}, CI F H a ns → a ≠ p → CI (F.or fun x => x = p) H a ns := fun {a ns} c n1 => by
    obtain ⟨nf', c', j, l, n, e1, e2, e3, cb⟩ := c
    exact ⟨fun z => z.elim nf' n1, c', j, l, n, e1, .inl e2, e3, cb⟩
  have c1 : ∀ {j : Nat} {a : Addr} {ns : Cel}, ρ[j]? = some (.cell a ns) → a ≠ p := fun {j a ns} q z => fr2 (by rw [← z]; exact ⟨j, ns, q⟩)
  have c2 : ∀ {a : Addr} {ns : Cel}, B.c0 a ns → a ≠ p := fun {a ns} q z => (er.kb a ns q).2 (by rw [z]; exact fr1)
  refine ⟨F.or (fun x => x = p), rfl, ⟨by simp [er.len], fun j t q hn => ?_, fun j c xs q => ?_, fun j k c c' xs ys a q1 q2 q3 q4 => ?_, fun j c xs a q1 q2 => ?_, fun a c => er.cf a (cells c), ?_, fun a ns q => ⟨ci (er.kb a ns q).1 (c2 q), (er.kb a ns q).2⟩, fun a o q => ?_, fun a f => ?_⟩⟩
  · rcases ne q with ⟨rfl, rfl⟩ | ⟨z, q⟩
    · exact ⟨_, h1, CT.fro_sl (F := F.or (fun x => x = p)) (.inr rfl) h2 (Rp.mono m r)⟩
    · obtain ⟨w, q1, q2⟩ := er.sl j t q hn
      refine ⟨w, q1, ?_⟩
      cases t with
      | un => trivial
      | v d => exact Rp.mono m q2
      | ow c xs =>
        obtain ⟨a, ws, rfl, q3, q4, q5⟩ := q2
        have n1 : a ≠ p := fun e => z (er.ow j i c c0 xs ds p q h (e ▸ q1) h1)
        exact ⟨a, ws, rfl, q3, fun z => z.elim q4 n1, Rp.mono m q5⟩
      | fz ks ds =>
        obtain ⟨a, us, rfl, f, q3, q4⟩ := q2
        exact ⟨a, us, rfl, .inl f, q3, Rp.mono m q4⟩
      | bw c xs => exact absurd q (er.nb j c xs)
      | cell a ns => exact ⟨q2.1, ci q2.2 (c1 q)⟩
      | scr ns =>
        obtain ⟨a, rfl, q3⟩ := q2
        exact ⟨a, rfl, q3⟩
      | dct kvs =>
        obtain ⟨a, us, rfl, f, q3, k, q4⟩ := q2
        exact ⟨a, us, rfl, .inl f, q3, k, Rp.mono m q4⟩
      | fns kvs =>
        obtain ⟨a, rfl, f, q3⟩ := q2
        exact ⟨a, rfl, .inl f, q3⟩
  · rcases ne q with ⟨_, e⟩ | ⟨_, q⟩
    · exact absurd e.symm CT.fro_bw
    · exact er.nb j c xs q
  · exact er.ow j k _ _ _ _ a (own_of q1).2 (own_of q2).2 q3 q4
  · obtain ⟨f1, f2⟩ := er.fr j _ _ a (own_of q1).2 q2
    exact ⟨f1, fun c => f2 (cells c)⟩
  · have b := er.bs
    exact b.frz fun a z => by subst z; exact fr1
  · obtain ⟨q1, q2⟩ := er.pin a o q
    exact ⟨q1, q2.imp .inl id⟩
  · rcases f with f | rfl
    · exact er.dm a f
    · exact ⟨_, h2, c0.ld us⟩
end

/-! ### statements -/
structure VEnds where
  nx : Env → Prop
  rt : SV → Prop
  bk : Env → Prop
  ct : Env → Prop
abbrev TVS := VEnds → Env → Prop
/-- how a def's end stands to its beginning -/
structure Fin (K : PySem.W.Frag) (B : Bas) (F' : FS) (H' : Hp) (s : SV) (u : V) : Prop where
  st : Stp (fun a => ∃ ns, B.c0 a ns) B.F0 F' B.H0 H'
  dm : FOk F' H'
  kb : ∀ a ns, B.c0 a ns → CI F' H' a ns
  sr : SlotR K F' H' u s
  fo : match s with
    | .ow _ _ => ∀ p, u = .ref p → B.H0 p = none
    | .cell a ns => B.c0 a ns ∨ B.H0 a = none
    | _ => True
structure Cont (K : PySem.W.Frag) (B : Bas) (E : VEnds) (D : Ends) (c : Nat) : Prop where
  nx : ∀ (F : FS) H σ ρ, F.ck ≤ c → ER K B F H σ ρ → E.nx ρ → D.nx σ H
  rt : ∀ s u (F : FS) H, F.ck ≤ c → E.rt s → NoBrw s → Fin K B F H s u → D.rt u H
  bk : ∀ (F : FS) H σ ρ, F.ck ≤ c → ER K B F H σ ρ → E.bk ρ → D.bk σ H
  ct : ∀ (F : FS) H σ ρ, F.ck ≤ c → ER K B F H σ ρ → E.ct ρ → D.ct σ H
theorem Cont.mono {K : PySem.W.Frag} {B : Bas} {E : VEnds} {D : Ends} {c c' : Nat} (k : Cont K B E D c') (h : c ≤ c') : Cont K B E D c :=
  ⟨fun F H σ ρ l => k.nx F H σ ρ (Nat.le_trans l h), fun s u F H l => k.rt s u F H (Nat.le_trans l h), fun F H σ ρ l => k.bk F H σ ρ (Nat.le_trans l h), fun F H σ ρ l => k.ct F H σ ρ (Nat.le_trans l h)⟩
def VS (X : Cx) (st : Stmt) (t : TVS) (κ : Nat) : Prop := ∃ ts, PS X st ts ∧ ∀ B F H σ ρ E D, ER X.K B F H σ ρ → F.ck + κ ≤ LIM → t E ρ → Cont X.K B E D (F.ck + κ) → ts D σ H
def VSs (X : Cx) (sts : List Stmt) (t : TVS) (κ : Nat) : Prop := ∃ ts, PSs X sts ts ∧ ∀ B F H σ ρ E D, ER X.K B F H σ ρ → F.ck + κ ≤ LIM → t E ρ → Cont X.K B E D (F.ck + κ) → ts D σ H

section
variable {X : Cx}
def vNext : TVS := fun E ρ => E.nx ρ
def vSeq (t u : TVS) : TVS := fun E ρ => t { E with nx := u E } ρ
theorem vss_nil : VSs X [] vNext 0 := ⟨_, pss_nil, fun B F H σ ρ E D er bq t k => k.nx F H σ ρ (by omega) er t⟩
theorem vss_cons {κ1 κ2 : Nat} {st : Stmt} {rest : List Stmt} {t u : TVS} (h : VS X st t κ1) (hr : VSs X rest u κ2) : VSs X (st :: rest) (vSeq t u) (κ1 + κ2) := by
  obtain ⟨ts, ps, g⟩ := h
  obtain ⟨us, pr, gr⟩ := hr
  refine ⟨_, pss_cons ps pr, fun B F H σ ρ E D er bq t k => ?_⟩
  exact g B F H σ ρ _ { D with nx := us D } er (by omega) t ⟨fun F' H' σ' ρ' c er' q => gr B F' H' σ' ρ' E D er' (by omega) q (k.mono (by omega)), (k.mono (by omega)).rt, (k.mono (by omega)).bk, (k.mono (by omega)).ct⟩
theorem vss_one {κ1 : Nat} {st : Stmt} {t : TVS} (h : VS X st t κ1) : VSs X [st] t κ1 := by
  obtain ⟨ts, ps, g⟩ := h
  exact ⟨ts, pss_one ps, g⟩
/-- the list in slot i is frozen from here on -/
def vFrz (i : Nat) (t : TVS) : TVS := fun E ρ => ∃ c ds, ρ[i]? = some (.ow c ds) ∧ t E (ρ.set i (c.fro ds))
theorem vss_frz {κ1 : Nat} {sts : List Stmt} {t : TVS} (i : Nat) (h : VSs X sts t κ1) : VSs X sts (vFrz i t) κ1 := by
  obtain ⟨ts, ps, g⟩ := h
  refine ⟨ts, ps, fun B F H σ ρ E D er bq ⟨c, ds, e, q⟩ k => ?_⟩
  obtain ⟨F', ce, er'⟩ := er.freeze e
  exact g B F' H σ _ E D er' (by omega) q (k.mono (by omega))
theorem vs_pass {pos : Pos} : VS X (.Pass pos) vNext 0 := ⟨_, ps_pass, fun B F H σ ρ E D er bq t k => k.nx F H σ ρ (by omega) er t⟩
def vBreak : TVS := fun E ρ => E.bk ρ
def vCont : TVS := fun E ρ => E.ct ρ
theorem vs_break {pos : Pos} : VS X (.Break pos) vBreak 0 := ⟨_, ps_break, fun B F H σ ρ E D er bq t k => k.bk F H σ ρ (by omega) er t⟩
theorem vs_continue {pos : Pos} : VS X (.Continue pos) vCont 0 := ⟨_, ps_continue, fun B F H σ ρ E D er bq t k => k.ct F H σ ρ (by omega) er t⟩
def vDrop (t : TV) : TVS := fun E ρ => t ρ fun _ => E.nx ρ
theorem vs_expr {κ1 : Nat} {e : Expr} {t : TV} {pos : Pos} (h : VE X e t κ1) (hs : swapsWith e none pos.line X.env = pure false) : VS X (.Expr e pos) (vDrop t) κ1 := by
  obtain ⟨te, pe, g⟩ := h
  exact ⟨_, ps_expr pe hs, fun B F H σ ρ E D er bq t k => g B F H σ ρ _ _ er (by omega) t fun s u F' H' cq q x => k.nx F' H' σ ρ (by omega) (er.step x.toExt) q⟩

theorem hand_no {s : SV} {c : CT} {ds : List PyData} (e : s.hand = some (.ow c ds)) : False := by
  cases s with
  | ow c' es => exact CT.fro_ow (Option.some.inj e)
  | _ => cases e
theorem hand_nb0 {s : SV} {c : CT} {ds : List PyData} (e : s.hand = some (.bw c ds)) : False := by
  cases s with
  | ow c' es => exact CT.fro_bw (Option.some.inj e)
  | _ => cases e
/-- handing a value on -/
theorem Res.hand {K : PySem.W.Frag} {ρ : Env} {F F' : FS} {H H' : Hp} {s t : SV} {u : V} (x : Res K ρ F H F' H' s u) (e : s.hand = some t) :
    ∃ F2, F2.ck = F'.ck ∧ Res K ρ F H F2 H' t u ∧ ∀ c ds, t ≠ .ow c ds := by
  have a : AllR K ρ F' H' H [u] [s] := ⟨x.sr, x.fo, trivial⟩
  have e2 : hands [s] = some [t] := by unfold hands; rw [e]; rfl
  have hN := AllR.owns a
  refine ⟨F'.or (ownsIn [u] [s]), rfl, ⟨x.toExt.frz hN, (hand_all x.toExt a e2 hN (fun a z => z) fun b ns z => by
    rw [← List.mem_singleton.mp z]
    exact fun q => by cases u <;> exact q).1, ?_⟩, fun c ds z => ?_⟩
  · cases s <;> cases e <;> first | trivial | exact x.fo | (rename_i c ds; cases c <;> trivial)
  · subst z
    exact hand_no e
theorem hand_nb {s t : SV} (e : s.hand = some t) : NoBrw t := fun c ds z => by
  subst z
  exact hand_nb0 e
/-- x = e; a list that is new stays one's own, or is handed on -/
def vAsgO (i : Nat) (t : TV) : TVS := fun E ρ => t ρ fun s => match s with
  | .ow c ds => E.nx (ρ.set i (.ow c ds))
  | _ => False
def vAsg (i : Nat) (t : TV) : TVS := fun E ρ => t ρ fun s => ∃ z, s.hand = some z ∧ E.nx (ρ.set i z)
section
variable {i : Nat} {e : Expr} {te : TE} {t : TV}
theorem asg_go {κ : Nat} (g : RE X t κ te)
    (B : Bas) (F : FS) (H : Hp) (σ : Hs) (ρ : Env) (E : VEnds) (D : Ends) (er : ER X.K B F H σ ρ) (bq : F.ck + κ ≤ LIM) (h : vAsg i t E ρ) (k : Cont X.K B E D (F.ck + κ)) : tAsg te (gName i) D σ H := by
  refine g B F H σ ρ _ _ er bq h fun s u F' H' cq ⟨z, e1, q⟩ x => ?_
  obtain ⟨F2, ce, x2, _⟩ := x.hand e1
  exact k.nx F2 H' _ _ (by omega) (er.set x2 (hand_nb e1) i) q
theorem asgO_go {κ : Nat} (g : RE X t κ te)
    (B : Bas) (F : FS) (H : Hp) (σ : Hs) (ρ : Env) (E : VEnds) (D : Ends) (er : ER X.K B F H σ ρ) (bq : F.ck + κ ≤ LIM) (h : vAsgO i t E ρ) (k : Cont X.K B E D (F.ck + κ)) : tAsg te (gName i) D σ H := by
  refine g B F H σ ρ _ _ er bq h fun s u F' H' cq q x => ?_
  cases s with
  | ow c ds => exact k.nx F' H' _ _ (by omega) (er.set x (fun _ _ z => nomatch z) i) q
  | _ => exact q.elim
theorem vs_asg {κ1 : Nat} {st : Stmt} (h : ∀ te, PE X e te → PS X st (tAsg te (gName i))) (he : VE X e t κ1) : VS X st (vAsg i t) κ1 := by
  obtain ⟨te, pe, g⟩ := he
  exact ⟨_, h te pe, asg_go g⟩
theorem vs_asgO {κ1 : Nat} {st : Stmt} (h : ∀ te, PE X e te → PS X st (tAsg te (gName i))) (he : VE X e t κ1) : VS X st (vAsgO i t) κ1 := by
  obtain ⟨te, pe, g⟩ := he
  exact ⟨_, h te pe, asgO_go g⟩
end
/-- return e -/
def vRet (t : TV) : TVS := fun E ρ => t ρ fun s => ∃ z, s.hand = some z ∧ E.rt z
theorem ER.fin {K : PySem.W.Frag} {B : Bas} {F F' : FS} {H H' : Hp} {σ : Hs} {ρ : Env} {s : SV} {u : V} (er : ER K B F H σ ρ) (x : Res K ρ F H F' H' s u) : Fin K B F' H' s u := by
  have e := er.step x.toExt
  have old : ∀ p, H p = none → B.H0 p = none := fun p h => by
    by_cases z : B.H0 p = none
    · exact z
    · exact absurd h (er.bs.ex p z)
  refine ⟨e.bs, e.dm, fun a ns h => (e.kb a ns h).1, x.sr, ?_⟩
  have fo := x.fo
  cases s with
  | ow c ds => exact fun p z => old p (fo p z)
  | cell a ns =>
    rcases fo with ⟨i, z⟩ | z
    · rcases er.cf a ⟨i, ns, z⟩ with ⟨ms, q⟩ | q
      · have e2 := (er.cell z).uniq (er.kb a ms q).1
        subst e2
        exact .inl q
      · exact .inr q
    · exact .inr (old a z)
  | _ => trivial
theorem vs_ret {κ1 : Nat} {e : Expr} {t : TV} {pos : Pos} (h : VE X e t κ1) : VS X (.Return (some e) pos) (vRet t) κ1 := by
  obtain ⟨te, pe, g⟩ := h
  refine ⟨_, ps_ret pe, fun B F H σ ρ E D er bq t k => ?_⟩
  refine g B F H σ ρ _ _ er (by omega) t fun s u F' H' cq ⟨z, e1, q⟩ x => ?_
  obtain ⟨F2, ce, x2, _⟩ := x.hand e1
  exact k.rt z u F2 H' (by omega) q (hand_nb e1) (er.fin x2)
theorem vs_retN {pos : Pos} : VS X (.Return none pos) (fun E _ => E.rt (.v .none)) 0 :=
  ⟨_, ps_retN, fun B F H σ ρ E D er bq t k => k.rt _ _ F H (by omega) t (fun _ _ z => nomatch z) (er.fin ⟨er.refl, .non, trivial⟩)⟩
def vIfS (c : TVb) (t u : TVS) : TVS := fun E ρ => c ρ fun b => if b = true then t E ρ else u E ρ
theorem vs_if {κ1 κ2 κ3 : Nat} {c : Expr} {a b : List Stmt} {tc : TVb} {t u : TVS} {pos : Pos} (hc : VT X c tc κ1) (ha : VSs X a t κ2) (hb : VSs X b u κ3) : VS X (.If c a b pos) (vIfS tc t u) (κ1 + κ2 + κ3) := by
  obtain ⟨tce, pc, gc⟩ := hc
  obtain ⟨te, pa, ga⟩ := ha
  obtain ⟨ue, pb, gb⟩ := hb
  refine ⟨_, ps_if pc pa pb, fun B F H σ ρ E D er bq t k => ?_⟩
  refine gc B F H σ ρ _ _ er (by omega) t fun b F' H' cq q x => ?_
  cases b with
  | true => exact ga B F' H' σ ρ E D (er.step x) (by omega) q (k.mono (by omega))
  | false => exact gb B F' H' σ ρ E D (er.step x) (by omega) q (k.mono (by omega))
/-- while, by a word that falls -/
def vWhile (c : TVb) (t : TVS) : TVS := fun E ρ => ∃ W : Nat → Env → Prop, (∃ m, W m ρ) ∧ ∀ m ρ, W m ρ → c ρ fun b => if b = true then
    t { E with nx := fun ρ' => ∃ m', m' < m ∧ W m' ρ', ct := fun ρ' => ∃ m', m' < m ∧ W m' ρ', bk := E.nx } ρ else E.nx ρ
theorem vs_while {κ1 κ2 : Nat} {c : Expr} {body : List Stmt} {tc : TVb} {t : TVS} {pos : Pos} (hp : PassesOwn (model X.prog X.w) X.A X.env X.xe) (hc : VT X c tc κ1) (hb : VSs X body t κ2) (h0 : κ1 + κ2 = 0 := by omega) : VS X (.While c body [] pos) (vWhile tc t) 0 := by
  obtain ⟨rfl, rfl⟩ : κ1 = 0 ∧ κ2 = 0 := ⟨by omega, by omega⟩
  obtain ⟨tce, pc, gc⟩ := hc
  obtain ⟨te, pb, gb⟩ := hb
  refine ⟨_, ps_while hp pc pb, fun B F H σ ρ E D er bq ⟨W, ⟨m0, w0⟩, hw⟩ k => ?_⟩
  refine ⟨fun m σ' H' => ∃ (F' : FS) (ρ' : Env), F'.ck ≤ F.ck ∧ ER X.K B F' H' σ' ρ' ∧ W m ρ', ⟨m0, F, ρ, Nat.le_refl _, er, w0⟩, ?_⟩
  rintro m σ' H' ⟨F', ρ', cl, er', w'⟩
  refine gc B F' H' σ' ρ' _ _ er' (by omega) (hw m ρ' w') fun b F2 H2 cq q x => ?_
  cases b with
  | true =>
    refine ⟨fun σ3 H3 => ∃ (F3 : FS) (ρ3 : Env), F3.ck ≤ F.ck ∧ ER X.K B F3 H3 σ3 ρ3 ∧ ∃ m', m' < m ∧ W m' ρ3, ?_, ?_⟩
    · rintro σ3 H3 ⟨F3, ρ3, c3, er3, m', hm, w3⟩
      exact ⟨m', hm, F3, ρ3, c3, er3, w3⟩
    · exact gb B F2 H2 σ' ρ' _ _ (er'.step x) (by omega) q ⟨fun F3 H3 σ3 ρ3 c3 er3 q3 => ⟨F3, ρ3, by omega, er3, q3⟩, (k.mono (by omega)).rt, (k.mono (by omega)).nx, fun F3 H3 σ3 ρ3 c3 er3 q3 => ⟨F3, ρ3, by omega, er3, q3⟩⟩
  | false => exact k.nx F2 H2 σ' ρ' (by omega) (er'.step x) q
end
end VL
namespace VL
open PySem PySem.Spec PyProof.Rows L2 VG

/-! ### walks -/
/-- v is the data d; w: or a tuple of whose object nothing is known -/
def R1q (w : Bool) (K : PySem.W.Frag) (F : FS) (H : Hp) (v : V) (d : PyData) : Prop :=
  R1 K F H v d ∨ (w = true ∧ ∃ (a : Addr) (xs : List V) (ds : List PyData), v = .ref a ∧ d = .tuple ds ∧ SqT K H a xs ∧ RA K F H xs ds)
theorem R1q.s {K : PySem.W.Frag} {F : FS} {H : Hp} {v : V} {d : PyData} (h : R1q false K F H v d) : R1 K F H v d := h.elim id fun z => nomatch z.1
theorem R1q.t {w : Bool} {K : PySem.W.Frag} {F : FS} {H : Hp} {v : V} {ds : List PyData} (h : R1q w K F H v (.tuple ds)) : ∃ a xs, v = .ref a ∧ SqT K H a xs ∧ RA K F H xs ds := by
  rcases h with h | ⟨_, a, xs, es, e, e2, q, r⟩
  · cases h with
    | tup q r => exact ⟨_, _, rfl, q.t, r⟩
  · cases e2
    exact ⟨a, xs, e, q, r⟩
/-- J walks the data ds; (F1, H1): where it began -/
structure Wk (w : Bool) (J : It) (K : PySem.W.Frag) (ds : List PyData) (F1 : FS) (H1 : Hp) : Prop where
  go : ∀ i F H, FM F1 F H1 H → FOk F H → i < ds.length → J.go i H
  yld : ∀ i F H x H' d, FM F1 F H1 H → FOk F H → ds[i]? = some d → J.yld i H x H' → ∃ F' : FS, F'.ck = F.ck ∧ Stp (fun _ => False) F F' H H' ∧ FOk F' H' ∧ R1q w K F' H' x d
  stop : ∀ F H, FM F1 F H1 H → FOk F H → J.stop ds.length H
abbrev TVl := Env → (List PyData → Prop) → Prop
def VI (w : Bool) (X : Cx) (tg iter : Expr) (t : TVl) (κ : Nat) : Prop := ∃ wi, PI X tg iter wi ∧
  ∀ B F H σ ρ (Q : List PyData → Prop) (R : It → Hp → Prop), ER X.K B F H σ ρ → F.ck + κ ≤ LIM → t ρ Q → (∀ ds J (F' : FS) H', F'.ck ≤ F.ck + κ → Q ds → Ext ρ F H F' H' → Wk w J X.K ds F' H' → R J H') → wi σ H R
def iSeq (K : PySem.W.Frag) (te : TE) : TI := fun σ H R => te σ H fun x H1 =>
  (∃ a, x = .ref a ∧ (((∃ xs, SqL K H1 a xs) ∧ R (Itl K a) H1) ∨ ((∃ xs, SqT K H1 a xs) ∧ R (Itt K a) H1))) ∨ ∃ z, x = .str z ∧ R (Its z) H1
section
variable {X : Cx}
theorem pi_seq {tg l : Expr} {te : TE} (hl : PE X l te) : PI X tg l (iSeq X.K te) := by
  refine ⟨fun pins s σ H R I h => thn (hl.run pins s σ H _ I h) fun v s1 q => ?_⟩
  obtain ⟨x, H1, I1, r, q⟩ := q
  have room : ∀ b, b ∈ [s1.heap.objs.size] → FpOk X pins H1 b := fun b hb => by
    rw [List.mem_singleton.mp hb]
    exact I1.fpOk (Nat.le_refl _) I1.fresh
  have more : ∀ o : Obj, Inv X pins σ H1 { s1 with heap := s1.heap.push o, toks := s1.toks } := fun o => I1.kept fun b o e => Heap.get?_push_of_some _ e
  rcases q with ⟨a, rfl, ⟨⟨xs, hq⟩, q⟩ | ⟨⟨xs, hq⟩, q⟩⟩ | ⟨z, rfl, q⟩
  · cases r
    obtain ⟨its, rv, p, _⟩ := I1.list hq
    exact wpAny_pyIter_list p.isList ⟨_, [s1.heap.objs.size], _, _, H1, rfl, more _, turn_list a _, ⟨_, Heap.get?_push_size _ rfl, rfl, rfl⟩, room, q⟩
  · cases r
    obtain ⟨its, rv, p, _⟩ := I1.tuple hq
    exact wpAny_pyIter_tuple (show s1.heap.IsTuple a its.toArray from p) ⟨_, [s1.heap.objs.size], _, _, H1, rfl, more _, turn_tuple a _, ⟨_, Heap.get?_push_size _ rfl, rfl, rfl⟩, room, q⟩
  · obtain ⟨t, rfl⟩ := r
    rcases ha : z.cps.all (· < 128)
    · exact wpAny_pyIter_wide ha (pi_one (tk := s1.toks) I1 _ (turn_str _ z t "str_iterator" (.inr rfl)) ⟨_, Heap.get?_push_size _ rfl, rfl, rfl⟩ q)
    · exact wpAny_pyIter_ascii ha (pi_one (tk := s1.toks) I1 _ (turn_str _ z t "str_ascii_iterator" (.inl rfl)) ⟨_, Heap.get?_push_size _ rfl, rfl, rfl⟩ q)
/-- what can be walked: the items (a list of the frame's own is not: it may change) -/
def SV.items : SV → Option (List PyData)
  | .v (.list ds) => some ds
  | .ow .lst ds => some ds
  | .v (.tuple ds) => some ds
  | .v (.str z) => some (z.cps.toList.map fun c => .str ⟨#[c]⟩)
  | _ => none
variable {K : PySem.W.Frag} {F1 : FS} {H1 : Hp}
theorem wk_list {a : Addr} {xs : List V} {ds : List PyData} (f : F1 a) (h : H1 a = some (.lst xs)) (r : RA K F1 H1 xs ds) : Wk false (Itl K a) K ds F1 H1 where
  go := fun i F H m d hi => by
    have hl := r.len
    exact ⟨xs, xs[i]'(by omega), SqL.of (m.fk _ _ f h), by simp [hl, hi]⟩
  yld := fun i F H x H' d m fo hd y => by
    obtain ⟨rfl, y⟩ := y
    have hx := y xs (SqL.of (m.fk _ _ f h))
    obtain ⟨v, q1, q2⟩ := r.get hd
    rw [hx] at q1
    cases q1
    exact ⟨F, rfl, Stp.refl, fo, .inl (Rp.mono m q2)⟩
  stop := fun F H m _ => ⟨xs, SqL.of (m.fk _ _ f h), by rw [r.len]; exact Nat.le_refl _⟩
theorem wk_tup {a : Addr} {xs : List V} {ds : List PyData} (h : SqT K H1 a xs) (r : RA K F1 H1 xs ds) : Wk false (Itt K a) K ds F1 H1 where
  go := fun i F H m d hi => by
    have hl := r.len
    exact ⟨xs, xs[i]'(by omega), m.sqt h, by simp [hl, hi]⟩
  yld := fun i F H x H' d m fo hd y => by
    obtain ⟨rfl, y⟩ := y
    have hx := y xs (m.sqt h)
    obtain ⟨v, q1, q2⟩ := r.get hd
    rw [hx] at q1
    cases q1
    exact ⟨F, rfl, Stp.refl, fo, .inl (Rp.mono m q2)⟩
  stop := fun F H m _ => ⟨xs, m.sqt h, by rw [r.len]; exact Nat.le_refl _⟩
theorem wk_str {z : Str} : Wk false (Its z) K (z.cps.toList.map fun c => .str ⟨#[c]⟩) F1 H1 where
  go := fun i F H m d hi => by
    show i < z.cps.size
    simpa using hi
  yld := fun i F H x H' d m fo hd y => by
    obtain ⟨rfl, c, e, rfl⟩ := y
    refine ⟨F, rfl, Stp.refl, fo, ?_⟩
    have e2 : (z.cps.toList.map fun c => PyData.str ⟨#[c]⟩)[i]? = some (PyData.str ⟨#[c]⟩) := by
      rw [List.getElem?_map, Array.getElem?_toList, e]; rfl
    rw [e2] at hd
    cases hd
    exact .inl (.str _)
  stop := fun F H m _ => by simp [Its]
theorem wk_range {lo : Int} {n : Nat} : Wk false (Itr lo n) K ((List.range n).map fun (i : Nat) => PyData.int (lo + (i : Int))) F1 H1 where
  go := fun i F H m d hi => by
    show i < n
    simpa using hi
  yld := fun i F H x H' d m fo hd y => by
    obtain ⟨rfl, rfl⟩ := y
    refine ⟨F, rfl, Stp.refl, fo, ?_⟩
    have hi : i < n := by
      have := (List.getElem?_eq_some_iff.mp hd).1
      simpa using this
    have e2 : ((List.range n).map fun (i : Nat) => PyData.int (lo + (i : Int)))[i]? = some (PyData.int (lo + (i : Int))) := by
      rw [List.getElem?_map, List.getElem?_range hi]; rfl
    rw [e2] at hd
    cases hd
    exact .inl (.int _)
  stop := fun F H m _ => by
    show n ≤ _
    simp
end


section
variable {X : Cx}
theorem vi_seq {κ1 : Nat} {tg l : Expr} {t : TV} (h : VE X l t κ1) : VI false X tg l (fun ρ Q => t ρ fun s => ∃ ds, s.items = some ds ∧ Q ds) κ1 := by
  obtain ⟨te, pe, g⟩ := h
  refine ⟨_, pi_seq pe, fun B F H σ ρ Q R er bq t k => ?_⟩
  refine g B F H σ ρ _ _ er (by omega) t fun s u F' H' cq ⟨ds, e, q⟩ x => ?_
  cases s with
  | v d =>
    have r : R1 X.K F' H' u d := x.sr
    cases d with
    | list es =>
      cases e
      cases r with
      | lst f h r => exact .inl ⟨_, rfl, .inl ⟨⟨_, SqL.of h⟩, k _ _ F' H' (by omega) q x.toExt (wk_list f h r)⟩⟩
    | tuple es =>
      cases e
      cases r with
      | tup h r => exact .inl ⟨_, rfl, .inr ⟨⟨_, h.t⟩, k _ _ F' H' (by omega) q x.toExt (wk_tup h.t r)⟩⟩
    | str z =>
      cases e
      cases r with
      | str z => exact .inr ⟨_, rfl, k _ _ F' H' (by omega) q x.toExt wk_str⟩
    | _ => cases e
  | ow c es =>
    cases c with
    | lst =>
      cases e
      obtain ⟨F2, ce, x2, _⟩ := x.hand (t := .v (.list ds)) rfl
      have r : R1 X.K F2 H' u (.list ds) := x2.sr
      cases r with
      | lst f h r => exact .inl ⟨_, rfl, .inl ⟨⟨_, SqL.of h⟩, k _ _ F2 H' (by omega) q x2.toExt (wk_list f h r)⟩⟩
    | _ => cases e
  | _ => cases e
/-- range(n) | range(a, b) -/
def isI (s : SV) (P : Int → Prop) : Prop := ∃ i, s = .v (.int i) ∧ P i
theorem int_of {K : PySem.W.Frag} {F : FS} {H : Hp} {u : V} {i : Int} (h : SlotR K F H u (.v (.int i))) : u = .int i := by
  cases (show R1 K F H u (.int i) from h) with
  | int i => rfl
def vRng1 (t : TVs) : TVl := fun ρ Q => t ρ fun ss => ∃ n : Int, ss = [.v (.int n)] ∧ n < 2 ^ 62 ∧ -(2 ^ 62) ≤ n ∧ Q ((List.range n.toNat).map fun (i : Nat) => PyData.int (0 + (i : Int)))
def vRng2 (t : TVs) : TVl := fun ρ Q => t ρ fun ss => ∃ a b : Int, ss = [.v (.int a), .v (.int b)] ∧ a < 2 ^ 62 ∧ -(2 ^ 62) ≤ a ∧ b < 2 ^ 62 ∧ -(2 ^ 62) ≤ b ∧ Q ((List.range (b - a).toNat).map fun (i : Nat) => PyData.int (a + (i : Int)))
theorem vi_range1 {κ1 : Nat} {tg l : Expr} {es : List Expr} {t : TVs} (hr : ∀ ta, PA X es ta → PI X tg l (iRng1 ta)) (h : VA X es t κ1) : VI false X tg l (vRng1 t) κ1 := by
  obtain ⟨ta, pa, g⟩ := h
  refine ⟨_, hr ta pa, fun B F H σ ρ Q R er bq t k => ?_⟩
  refine g B F H σ ρ _ _ er (by omega) t fun ss us F' H' cq ⟨n, e, h1, h2, q⟩ x al => ?_
  subst e
  match us, al with
  | [u], ⟨s1, _, _⟩ =>
    rw [int_of s1]
    exact ⟨n, rfl, h2, h1, k _ _ F' H' (by omega) q x wk_range⟩
theorem vi_range2 {κ1 : Nat} {tg l : Expr} {es : List Expr} {t : TVs} (hr : ∀ ta, PA X es ta → PI X tg l (iRng2 ta)) (h : VA X es t κ1) : VI false X tg l (vRng2 t) κ1 := by
  obtain ⟨ta, pa, g⟩ := h
  refine ⟨_, hr ta pa, fun B F H σ ρ Q R er bq t k => ?_⟩
  refine g B F H σ ρ _ _ er (by omega) t fun ss us F' H' cq ⟨a, b, e, h1, h2, h3, h4, q⟩ x al => ?_
  subst e
  match us, al with
  | [u, w], ⟨s1, _, s2, _, _⟩ =>
    rw [int_of s1, int_of s2]
    exact ⟨a, b, rfl, ⟨h2, h1, h4, h3⟩, k _ _ F' H' (by omega) q x wk_range⟩

/-! ### targets -/
abbrev TGt := PyData → Env → (Env → Prop) → Prop
abbrev TGts := List PyData → Env → (Env → Prop) → Prop
/-- no other feeds -/
def CSub (ρ' ρ : Env) : Prop := ∀ (i : Nat) (a : Addr) (ns : Cel), ρ'[i]? = some (SV.cell a ns) → ∃ j : Nat, ρ[j]? = some (SV.cell a ns)
theorem csub_set {ρ : Env} {i : Nat} {d : PyData} : CSub (ρ.set i (.v d)) ρ := fun j a ns e => by
  by_cases z : j = i
  · subst z
    exact nomatch getElem?_set_eq e
  · rw [List.getElem?_set_ne (Ne.symm z)] at e
    exact ⟨j, e⟩
/-- a target: what it stores, and where (is: the slots) -/
def GS (K : PySem.W.Frag) (is : List Nat) (σ0 : Hs) (ρ0 : Env) (B : Bas) (F : FS) (H : Hp) (Q : Env → Prop) (R : Hs → Hp → Prop) : Prop :=
  ∀ σ' ρ', ER K B F H σ' ρ' → (∀ vs, (∀ i ∈ is, i ∈ vs) → wipe σ' vs = wipe σ0 vs) ∧ CSub ρ' ρ0 → Q ρ' → R σ' H
def VTg (w : Bool) (X : Cx) (is : List Nat) (tg : Expr) (t : TGt) : Prop := ∃ g, PG X tg g ∧ ∀ B F H σ ρ u d (Q : Env → Prop) (R : Hs → Hp → Prop),
  ER X.K B F H σ ρ → R1q w X.K F H u d → t d ρ Q → GS X.K is σ ρ B F H Q R → g u σ H R
def VTgs (X : Cx) (is : List Nat) (tgs : List Expr) (t : TGts) : Prop := ∃ g, PGs X tgs g ∧ ∀ B F H σ ρ us ds (Q : Env → Prop) (R : Hs → Hp → Prop),
  ER X.K B F H σ ρ → RA X.K F H us ds → t ds ρ Q → GS X.K is σ ρ B F H Q R → g us σ H R
theorem wipe_set {σ : Hs} {i : Nat} {x : Option V} : ∀ {vs : List Nat}, i ∈ vs → wipe (σ.set i x) vs = wipe σ vs := by
  intro vs h
  apply List.ext_getElem?
  intro j
  by_cases hj : j ∈ vs
  · have w1 : ∀ τ : Hs, ∀ v, (wipe τ vs)[j]? = some (some v) → False := fun τ v e => (wipe_some e).2 hj
    have l1 : (wipe (σ.set i x) vs).length = σ.length := by rw [wipe_length]; simp
    have l2 : (wipe σ vs).length = σ.length := wipe_length ..
    by_cases hl : j < σ.length
    · rcases e1 : (wipe (σ.set i x) vs)[j]? with _ | o1
      · rw [List.getElem?_eq_none_iff] at e1; omega
      · rcases e2 : (wipe σ vs)[j]? with _ | o2
        · rw [List.getElem?_eq_none_iff] at e2; omega
        · cases o1 with
          | some v => exact (w1 _ v e1).elim
          | none => cases o2 with
            | some v => exact (w1 _ v e2).elim
            | none => rfl
    · rw [List.getElem?_eq_none_iff.mpr (by omega), List.getElem?_eq_none_iff.mpr (by omega)]
  · rw [wipe_out hj, wipe_out hj, List.getElem?_set_ne (fun e => hj (by rw [← e]; exact h))]
def vgName (i : Nat) : TGt := fun d ρ Q => Q (ρ.set i (.v d))
theorem vtg_name {i : Nat} {e : Expr} (h : PG X e (gName i)) : VTg false X [i] e (vgName i) := by
  refine ⟨_, h, fun B F H σ ρ u d Q R er r t k => ?_⟩
  exact k _ _ (er.set (s := .v d) ⟨er.refl, r.s, trivial⟩ (fun _ _ z => nomatch z) i) ⟨fun vs hv => wipe_set (hv i (by simp)), csub_set⟩ t
def vgNil : TGts := fun ds ρ Q => ds = [] ∧ Q ρ
def vgCons (t : TGt) (r : TGts) : TGts := fun ds ρ Q => ∃ d ds', ds = d :: ds' ∧ t d ρ fun ρ' => r ds' ρ' Q
theorem vtgs_nil : VTgs X [] [] vgNil := by
  refine ⟨_, pgs_nil, fun B F H σ ρ us ds Q R er r ⟨e, q⟩ k => ?_⟩
  subst e
  cases r
  exact ⟨rfl, k σ ρ er ⟨fun _ _ => rfl, fun i a ns c => ⟨i, c⟩⟩ q⟩
theorem vtgs_cons {is js : List Nat} {e : Expr} {es : List Expr} {t : TGt} {r : TGts} (h : VTg false X is e t) (hr : VTgs X js es r)
    (pc : ∀ u us, PG X e u → PGs X es us → PGs X (e :: es) (gCons u us)) : VTgs X (is ++ js) (e :: es) (vgCons t r) := by
  obtain ⟨g, pg, gg⟩ := h
  obtain ⟨g2, pg2, gg2⟩ := hr
  refine ⟨_, pc _ _ pg pg2, fun B F H σ ρ us ds Q R er r ⟨d, ds', e, q⟩ k => ?_⟩
  subst e
  cases r with
  | cons r1 r2 =>
    refine ⟨_, _, rfl, gg B F H σ ρ _ d _ _ er (.inl r1) q fun σ1 ρ1 er1 w1 q1 => ?_⟩
    exact gg2 B F H σ1 ρ1 _ ds' Q R er1 r2 q1 fun σ2 ρ2 er2 w2 q2 => k σ2 ρ2 er2 ⟨fun vs hv => (w2.1 vs fun i hi => hv i (by simp [hi])).trans (w1.1 vs fun i hi => hv i (by simp [hi])), fun i a ns c => by
      obtain ⟨j, c⟩ := w2.2 i a ns c
      exact w1.2 j a ns c⟩ q2
def vgTup (n : Nat) (t : TGts) : TGt := fun d ρ Q => ∃ ds, d = .tuple ds ∧ ds.length = n ∧ t ds ρ Q
theorem vtg_tup {w : Bool} {is : List Nat} {es : List Expr} {k : Nat} {t : TGts} {n : Nat} {pos : Pos} (hc : X.calm = true) (h : VTgs X is es t)
    (hn : (assignEach es X.env).length = n) (hst : (assignEach es X.env).findIdx? (·.1) = none) : VTg w X is (.Tuple es k pos) (vgTup n t) := by
  obtain ⟨g, pg, gg⟩ := h
  refine ⟨_, pg_tup hc pg hn hst, fun B F H σ ρ u d Q R er r ⟨ds, e, hl, q⟩ k => ?_⟩
  subst e
  obtain ⟨a, xs, rfl, h, r⟩ := r.t
  exact ⟨_, _, rfl, h, (RA.len r).trans hl, gg B F H σ ρ _ ds Q R er r q k⟩
/-- a, b = e -/
def vAsgT (t : TV) (g : TGt) : TVS := fun E ρ => t ρ fun s => ∃ d, s = .v d ∧ g d ρ E.nx
theorem vs_asgT {κ1 : Nat} {is : List Nat} {tg e : Expr} {st : Stmt} {t : TV} {g : TGt} (h : ∀ te tg', PE X e te → PG X tg tg' → PS X st (tAsg te tg')) (he : VE X e t κ1) (hg : VTg false X is tg g) : VS X st (vAsgT t g) κ1 := by
  obtain ⟨te, pe, ge⟩ := he
  obtain ⟨gg, pg, sg⟩ := hg
  refine ⟨_, h _ _ pe pg, fun B F H σ ρ E D er bq t k => ?_⟩
  refine ge B F H σ ρ _ _ er (by omega) t fun s u F' H' cq ⟨d, e, q⟩ x => ?_
  subst e
  exact sg B F' H' σ ρ u d _ _ (er.step x.toExt) (.inl x.sr) q fun σ' ρ' er' _ q' => k.nx F' H' σ' ρ' (by omega) er' q'
/-- a, b = e1, e2 without a tuple -/
def vPar (i j : Nat) (t : TVs) : TVS := fun E ρ => t ρ fun ss => ∃ a b, datasIn ss = some [a, b] ∧ E.nx ((ρ.set i (.v a)).set j (.v b))
theorem vs_par {κ1 : Nat} {i j : Nat} {st : Stmt} {es : List Expr} {t : TVs} (h : ∀ ta, PA X es ta → PS X st (tPar i j ta)) (ha : VA X es t κ1) : VS X st (vPar i j t) κ1 := by
  obtain ⟨ta, pa, g⟩ := ha
  refine ⟨_, h ta pa, fun B F H σ ρ E D er bq t k => ?_⟩
  refine g B F H σ ρ _ _ er (by omega) t fun ss us F' H' cq ⟨a, b, e, q⟩ x al => ?_
  obtain ⟨F2, ce, x2, ra⟩ := data_all x al e
  match us, ra with
  | [u, w], .cons r1 (.cons r2 .nil) =>
    have e2 := er.step x2
    have e3 := e2.set (s := .v a) ⟨e2.refl, r1, trivial⟩ (fun _ _ z => nomatch z) i
    have e4 := e3.set (s := .v b) ⟨e3.refl, r2, trivial⟩ (fun _ _ z => nomatch z) j
    exact ⟨u, w, rfl, k.nx F2 H' _ _ (by omega) e4 q⟩

/-! ### for -/
def vLoop (g : TGt) (t : TVS) (E : VEnds) : List PyData → Env → Prop
  | [], ρ => E.nx ρ
  | d :: ds, ρ => g d ρ fun ρ' => t { E with nx := vLoop g t E ds, ct := vLoop g t E ds, bk := E.nx } ρ'
def vFor (it : TVl) (g : TGt) (t : TVS) : TVS := fun E ρ => it ρ fun ds => vLoop g t E ds ρ
theorem ER.rebase {K : PySem.W.Frag} {B : Bas} {F : FS} {H : Hp} {σ : Hs} {ρ : Env} {G : Addr → HO → Prop} (er : ER K B F H σ ρ) (h : ∀ a o, G a o → H a = some o ∧ Stay F a o) : ER K { B with G := G } F H σ ρ :=
  ⟨er.len, er.sl, er.nb, er.ow, er.fr, er.cf, er.bs, er.kb, h, er.dm⟩
theorem fm_of {F1 F : FS} {H1 H : Hp} (d : FOk F1 H1) (h : ∀ a o, H1 a = some o → Stay F1 a o → H a = some o ∧ Stay F a o) : FM F1 F H1 H := by
  refine ⟨fun a f => ?_, fun a o f e => (h a o e (.inl f)).1, fun a xs e => (h a _ e (.inr (.inl ⟨_, rfl⟩))).1, fun a o u e => (h a _ e (.inr (.inr ⟨_, _, rfl⟩))).1⟩
  obtain ⟨xs, e, l⟩ := d a f
  rcases (h a _ e (.inl f)).2 with z | ⟨_, z⟩ | ⟨_, _, z⟩
  · exact z
  · subst z; cases l
  · subst z; cases l
theorem for_go {w : Bool} {κ1 κ2 : Nat} {is : List Nat} {tg iter : Expr} {st : Stmt} {body : List Stmt} {it : TVl} {g : TGt} {t : TVS} (h : ∀ wi tg' tb, PI X tg iter wi → PG X tg tg' → PSs X body tb → PS X st (tFor wi tg' tb)) (hi : VI w X tg iter it κ1) (hg : VTg w X is tg g)
    (hb : VSs X body t κ2) (N : Nat) (ok : List PyData → Prop) (hN : ∀ ds, ok ds → ds.length * κ2 ≤ N) : VS X st (fun E ρ => it ρ fun ds => ok ds ∧ vLoop g t E ds ρ) (κ1 + N) := by
  obtain ⟨wi, pi, gi⟩ := hi
  obtain ⟨gt, pg, gg⟩ := hg
  obtain ⟨tb, pb, gb⟩ := hb
  refine ⟨_, h _ _ _ pi pg pb, fun B F H σ ρ E D er bq q k => ?_⟩
  refine gi B F H σ ρ _ _ er (by omega) q fun ds J F1 H1 cq q1 x wk => ?_
  obtain ⟨okd, q1⟩ := q1
  have hN := hN ds okd
  have er1 := er.step x
  have er2 : ER X.K { B with G := fun a o => H1 a = some o ∧ Stay F1 a o } F1 H1 σ ρ := er1.rebase fun a o z => z
  have back : ∀ {F' : FS} {H' : Hp} {σ' : Hs} {ρ' : Env}, ER X.K { B with G := fun a o => H1 a = some o ∧ Stay F1 a o } F' H' σ' ρ' → ER X.K B F' H' σ' ρ' := fun {F' H' σ' ρ'} e =>
    e.rebase fun a o z => e.pin a o (er1.pin a o z)
  have fm : ∀ {F' : FS} {H' : Hp} {σ' : Hs} {ρ' : Env}, ER X.K { B with G := fun a o => H1 a = some o ∧ Stay F1 a o } F' H' σ' ρ' → FM F1 F' H1 H' := fun {F' H' σ' ρ'} e =>
    fm_of x.dm fun a o h1 h2 => e.pin a o ⟨h1, h2⟩
  refine ⟨fun i m σ' H' => m = ds.length - i ∧ i ≤ ds.length ∧ ∃ (F' : FS) (ρ' : Env), F'.ck ≤ F1.ck + i * κ2 ∧ ER X.K { B with G := fun a o => H1 a = some o ∧ Stay F1 a o } F' H' σ' ρ' ∧ vLoop g t E (ds.drop i) ρ', ⟨_, rfl, Nat.zero_le _, F1, ρ, by omega, er2, q1⟩, ?_⟩
  rintro i m σ' H' ⟨rfl, hi, F', ρ', ce, er', q'⟩
  have hm1 : i * κ2 ≤ ds.length * κ2 := Nat.mul_le_mul_right _ hi
  by_cases hlt : i < ds.length
  · refine .inr ⟨wk.go i F' H' (fm er') er'.dm hlt, fun σ3 H3 => ∃ (F3 : FS) (ρ3 : Env), F3.ck ≤ F1.ck + (i + 1) * κ2 ∧ ER X.K { B with G := fun a o => H1 a = some o ∧ Stay F1 a o } F3 H3 σ3 ρ3 ∧ vLoop g t E (ds.drop (i + 1)) ρ3, fun σ3 H3 ⟨F3, ρ3, c3, er3, q3⟩ => ⟨ds.length - (i + 1), by omega, rfl, hlt, F3, ρ3, c3, er3, q3⟩, fun y H2 hy => ?_⟩
    have hd : ds[i]? = some (ds[i]'hlt) := List.getElem?_eq_getElem hlt
    obtain ⟨F2, c2, st, dm, r⟩ := wk.yld i F' H' y H2 _ (fm er') er'.dm hd hy
    have er2' := er'.step ((er'.refl).pure st dm)
    rw [List.drop_eq_getElem_cons hlt] at q'
    refine gg _ F2 H2 σ' ρ' y _ _ _ er2' r q' fun σ4 ρ4 er4 _ q4 => ?_
    have hm2 : (i + 1) * κ2 ≤ ds.length * κ2 := Nat.mul_le_mul_right _ hlt
    have hm3 : (i + 1) * κ2 = i * κ2 + κ2 := Nat.succ_mul i κ2
    exact gb _ F2 H2 σ4 ρ4 _ _ er4 (by omega) q4 ⟨fun F3 H3 σ3 ρ3 c3 er3 q3 => ⟨F3, ρ3, by omega, er3, q3⟩, fun s u F3 H3 c3 h1 h2 h3 => k.rt s u F3 H3 (by omega) h1 h2 ⟨h3.st, h3.dm, h3.kb, h3.sr, h3.fo⟩,
      fun F3 H3 σ3 ρ3 c3 er3 q3 => k.nx F3 H3 σ3 ρ3 (by omega) (back er3) q3, fun F3 H3 σ3 ρ3 c3 er3 q3 => ⟨F3, ρ3, by omega, er3, q3⟩⟩
  · have e : i = ds.length := by omega
    subst e
    rw [List.drop_length] at q'
    exact .inl ⟨wk.stop F' H' (fm er') er'.dm, k.nx F' H' σ' ρ' (by omega) (back er') q'⟩
theorem vs_for {w : Bool} {κ1 κ2 : Nat} {is : List Nat} {tg iter : Expr} {st : Stmt} {body : List Stmt} {it : TVl} {g : TGt} {t : TVS} (h : ∀ wi tg' tb, PI X tg iter wi → PG X tg tg' → PSs X body tb → PS X st (tFor wi tg' tb)) (hi : VI w X tg iter it κ1) (hg : VTg w X is tg g)
    (hb : VSs X body t κ2) (h0 : κ2 = 0 := by omega) : VS X st (vFor it g t) κ1 := by
  subst h0
  have h1 := for_go h hi hg hb 0 (fun _ => True) fun ds _ => by omega
  have key : (fun (E : VEnds) (ρ : Env) => it ρ fun ds => True ∧ vLoop g t E ds ρ) = vFor it g t := by
    funext E ρ
    unfold vFor
    congr 1
    funext ds
    exact propext ⟨fun h => h.2, fun h => ⟨trivial, h⟩⟩
  rw [key] at h1
  exact h1
/-- for, of at most L turns, in whose turns draws are made -/
def vForL (L : Nat) (it : TVl) (g : TGt) (t : TVS) : TVS := fun E ρ => it ρ fun ds => ds.length ≤ L ∧ vLoop g t E ds ρ
theorem vs_forL {w : Bool} (L : Nat) {κ1 κ2 : Nat} {is : List Nat} {tg iter : Expr} {st : Stmt} {body : List Stmt} {it : TVl} {g : TGt} {t : TVS} (h : ∀ wi tg' tb, PI X tg iter wi → PG X tg tg' → PSs X body tb → PS X st (tFor wi tg' tb)) (hi : VI w X tg iter it κ1) (hg : VTg w X is tg g)
    (hb : VSs X body t κ2) : VS X st (vForL L it g t) (κ1 + L * κ2) := for_go h hi hg hb (L * κ2) (fun ds => ds.length ≤ L) fun ds h => Nat.mul_le_mul_right _ h
end
end VL
namespace VL
open PySem PySem.Spec PyProof.Rows L2 VG

/-! ### readings that hang on the meaning alone -/
def canE (K : PySem.W.Frag) (t : TV) (κ : Nat) : TE := fun σ H R => ∃ B F ρ, ∃ Q : SV → Prop, ER K B F H σ ρ ∧ F.ck + κ ≤ LIM ∧ t ρ Q ∧ ∀ s u (F' : FS) H', F'.ck ≤ F.ck + κ → Q s → Res K ρ F H F' H' s u → R u H'
def canT (K : PySem.W.Frag) (t : TVb) (κ : Nat) : TT := fun σ H R => ∃ B F ρ, ∃ Q : Bool → Prop, ER K B F H σ ρ ∧ F.ck + κ ≤ LIM ∧ t ρ Q ∧ ∀ b (F' : FS) H', F'.ck ≤ F.ck + κ → Q b → Ext ρ F H F' H' → R b H'
def canG (w : Bool) (K : PySem.W.Frag) (is : List Nat) (t : TGt) : TG := fun u σ H R => ∃ B F ρ d, ∃ Q : Env → Prop, ER K B F H σ ρ ∧ R1q w K F H u d ∧ t d ρ Q ∧ GS K is σ ρ B F H Q R
section
variable {X : Cx}
theorem VE.can {κ1 : Nat} {e : Expr} {t : TV} (h : VE X e t κ1) : PE X e (canE X.K t κ1) := by
  obtain ⟨te, pe, g⟩ := h
  exact ⟨fun pins s σ H R I ⟨B, F, ρ, Q, er, bq, ht, k⟩ => pe.run pins s σ H R I (g B F H σ ρ Q R er bq ht k)⟩
def VTs (X : Cx) (es : List Expr) (t : TVb) (κ : Nat) : Prop := ∃ te, PTs X es te ∧
  ∀ B F H σ ρ (Q : Bool → Prop) (R : Bool → Hp → Prop), ER X.K B F H σ ρ → F.ck + κ ≤ LIM → t ρ Q → (∀ b (F' : FS) H', F'.ck ≤ F.ck + κ → Q b → Ext ρ F H F' H' → R b H') → te σ H R
theorem vts_nil : VTs X [] (fun _ Q => Q true) 0 := ⟨_, pts_nil, fun B F H σ ρ Q R er bq t k => k true F H (by omega) t er.refl⟩
theorem vts_one {κ1 : Nat} {c : Expr} {t : TVb} (h : VT X c t κ1) : VTs X [c] t κ1 := by
  obtain ⟨te, pe, g⟩ := h
  exact ⟨te, pts_one pe, g⟩
theorem VTs.can {κ1 : Nat} {e : List Expr} {t : TVb} (h : VTs X e t κ1) : PTs X e (canT X.K t κ1) := by
  obtain ⟨te, pe, g⟩ := h
  exact ⟨fun pins s σ H R I ⟨B, F, ρ, Q, er, bq, ht, k⟩ => pe.run pins s σ H R I (g B F H σ ρ Q R er bq ht k)⟩
theorem VTg.can {w : Bool} {e : Expr} {is : List Nat} {t : TGt} (h : VTg w X is e t) : PG X e (canG w X.K is t) := by
  obtain ⟨te, pe, g⟩ := h
  exact ⟨fun pins s σ H v u Q I r ⟨B, F, ρ, d, Q', er, r1, ht, k⟩ => pe.run pins s σ H v u Q I r (g B F H σ ρ v d Q' Q er r1 ht k)⟩
end

/-! ### comprehensions -/
def wipeV (ρ : Env) : List Nat → Env
  | [] => ρ
  | v :: vs => (wipeV ρ vs).set v .un
theorem wipeV_len (ρ : Env) : ∀ vs, (wipeV ρ vs).length = ρ.length
  | [] => rfl
  | v :: vs => by rw [wipeV, List.length_set, wipeV_len ρ vs]
theorem wipeV_some {ρ : Env} {i : Nat} {s : SV} : ∀ {vs : List Nat}, (wipeV ρ vs)[i]? = some s → s ≠ .un → ρ[i]? = some s ∧ i ∉ vs
  | [], h, _ => ⟨h, by simp⟩
  | v :: vs, h, hs => by
    rw [wipeV] at h
    by_cases e : i = v
    · subst e
      exact absurd (getElem?_set_eq h) hs
    · rw [List.getElem?_set_ne (Ne.symm e)] at h
      obtain ⟨h1, h2⟩ := wipeV_some h hs
      exact ⟨h1, by simp [e, h2]⟩
section
variable {K : PySem.W.Frag} {B : Bas} {F F' F1 F2 : FS} {H H' H1 H2 : Hp} {σ : Hs} {ρ ρ' : Env} {s : SV} {u : V}
theorem cells_wipe {vs : List Nat} {a : Addr} (h : cellsOf (wipeV ρ vs) a) : cellsOf ρ a := by
  obtain ⟨i, ns, e⟩ := h
  exact ⟨i, ns, (wipeV_some e (fun z => nomatch z)).1⟩
theorem ER.wipe (er : ER K B F H σ ρ) (vs : List Nat) : ER K B F H (L2.wipe σ vs) (wipeV ρ vs) where
  len := by rw [wipe_length, wipeV_len, er.len]
  sl := fun i s h hn => by
    obtain ⟨h1, h2⟩ := wipeV_some h hn
    rw [wipe_out h2]
    exact er.sl i s h1 hn
  nb := fun i c ds h => er.nb i c ds (wipeV_some h (fun z => nomatch z)).1
  ow := fun i j c c' ds es p h1 h2 h3 h4 => by
    obtain ⟨a1, a2⟩ := wipeV_some h1 (fun z => nomatch z)
    obtain ⟨b1, b2⟩ := wipeV_some h2 (fun z => nomatch z)
    rw [wipe_out a2] at h3
    rw [wipe_out b2] at h4
    exact er.ow i j c c' ds es p a1 b1 h3 h4
  fr := fun i k ds p h1 h2 => by
    obtain ⟨a1, a2⟩ := wipeV_some h1 (fun z => nomatch z)
    rw [wipe_out a2] at h2
    exact ⟨(er.fr i k ds p a1 h2).1, fun c => (er.fr i k ds p a1 h2).2 (cells_wipe c)⟩
  cf := fun a c => er.cf a (cells_wipe c)
  bs := er.bs
  kb := er.kb
  pin := er.pin
  dm := er.dm
theorem csub_cells {ρ ρ' : Env} (h : CSub ρ' ρ) {x : Addr} (c : cellsOf ρ' x) : cellsOf ρ x := by
  obtain ⟨i, ns, e⟩ := c
  obtain ⟨j, e⟩ := h i x ns e
  exact ⟨j, ns, e⟩
theorem csub_wipe {vs : List Nat} : CSub (wipeV ρ vs) ρ := fun i a ns e => ⟨i, (wipeV_some e (fun z => nomatch z)).1⟩
theorem CSub.trans {ρ1 ρ2 ρ3 : Env} (h : CSub ρ1 ρ2) (h' : CSub ρ2 ρ3) : CSub ρ1 ρ3 := fun i a ns e => by
  obtain ⟨j, e⟩ := h i a ns e
  exact h' j a ns e
/-- a step of fewer feeds -/
theorem Ext.sub (a : Ext ρ F H F1 H1) (b : Ext ρ' F1 H1 F2 H2) (h : CSub ρ' ρ) : Ext ρ F H F2 H2 := by
  refine ⟨a.st.trans (b.st.more fun x c => csub_cells h c), b.dm, fun i x ns e => ?_, a.cp⟩
  by_cases z : cellsOf ρ' x
  · obtain ⟨j, ms, q⟩ := z
    obtain ⟨k, q2⟩ := h j x ms q
    have e2 := (a.cl i x ns e).uniq (a.cl k x ms q2)
    subst e2
    exact b.cl j x ns q
  · exact (a.cl i x ns e).keep b.st z
/-- an object that was new when the step began changes -/
theorem Stp.mut {M : Addr → Prop} {p : Addr} {o : HO} (st : Stp M F F' H H') (hp : H p = none) : Stp M F F' H (upd H' p o) := by
  have k : ∀ a u, H a = some u → H' a = some u → upd H' p o a = some u := fun a u e e2 => by rw [upd_ne (ne_of_none e hp)]; exact e2
  refine ⟨⟨st.fr, fun a u f e => k a u e (st.fk a u f e), fun a xs e => k a _ e (st.tp a xs e), fun a u w e => k a _ e (st.fz a u w e)⟩, fun a u e m => k a u e (st.kp a u e m), fun a h => ?_, st.nw, st.ck⟩
  have h2 := st.ex a h
  by_cases z : a = p
  · rw [z] at h; exact absurd hp h
  · rw [upd_ne z]; exact h2
theorem CI.mut {a p : Addr} {ns : Cel} {vs : List V} (c : CI F H a ns) (n1 : a ≠ p) (nf : ¬ F p) : CI F (upd H p (.lst vs)) a ns := by
  obtain ⟨nf', c', j, l, n, e1, e2, e3, cb⟩ := c
  exact ⟨nf', c', j, l, n, by rw [upd_ne n1]; exact e1, e2, by rw [upd_ne (fun z => nf (by rw [← z]; exact e2))]; exact e3, cb⟩

def cLoop (g : TGt) (c : TVb) (t : TV) (w : Env) : List PyData → List PyData → (List PyData → Prop) → Prop
  | [], acc, Q => Q acc
  | d :: ds, acc, Q => g d w fun ρ' => c ρ' fun b => if b = true then t ρ' fun s => ∃ z, datasIn [s] = some [z] ∧ acc.length < 100000 ∧ cLoop g c t w ds (acc ++ [z]) Q else cLoop g c t w ds acc Q
def vLc (it : TVl) (g : TGt) (c : TVb) (t : TV) (vs : List Nat) : TV := fun ρ Q => it ρ fun ds => cLoop g c t (wipeV ρ vs) ds [] fun acc => Q (.own acc)
section
variable {X : Cx} {scope : Scope} {tg iter elt e : Expr} {ifs : List Expr} {is vs : List Nat} {it : TVl} {g : TGt} {c : TVb} {t : TV}
abbrev Bk (X : Cx) (scope : Scope) (P : Cx → Prop) : Prop := ∀ (s : Shared) (H : Hp) (C : Addr) (cl : List (Str × Addr)) (fp : List Addr), P (X.blk s H scope (compEnvC scope cl C X.env) fp)
theorem lc_go {w : Bool} {κ1 κ2 κ3 : Nat} (hi : VI w X tg iter it κ1) (his : ∀ i ∈ is, i ∈ vs) (N : Nat) (ok : List PyData → Prop) (hN : ∀ ds, ok ds → ds.length * (κ2 + κ3) ≤ N) :
    ∃ wi, PI X tg iter wi ∧ RE X (fun ρ Q => it ρ fun ds => ok ds ∧ cLoop g c t (wipeV ρ vs) ds [] fun acc => Q (.own acc)) (κ1 + N) (tLc wi (canG w X.K is g) (canT X.K c κ2) (canE X.K t κ3) vs) := by
  obtain ⟨wi, pi, gi⟩ := hi
  refine ⟨wi, pi, fun B F H σ ρ Q R er bq q k => ?_⟩
  refine gi B F H σ ρ _ _ er (by omega) q fun ds J F1 H1 cq q1 x wk D hD => ?_
  obtain ⟨okd, q1⟩ := q1
  have hN := hN ds okd
  have hD0 : H D = none := by
    by_cases z : H D = none
    · exact z
    · exact absurd hD (x.st.ex D z)
  have er1 := er.step x
  have nf1 : ¬ F1 D := fun z => by
    obtain ⟨xs, e, _⟩ := x.dm D z
    rw [hD] at e; cases e
  refine ⟨fun i m H' => m = ds.length - i ∧ i ≤ ds.length ∧ ∃ (F' : FS) (us : List V) (acc : List PyData), F'.ck ≤ F1.ck + i * (κ2 + κ3) ∧ Ext ρ F1 H1 F' H' ∧ H' D = some (.lst us) ∧ ¬ F' D ∧ RA X.K F' H' us acc ∧ cLoop g c t (wipeV ρ vs) (ds.drop i) acc (fun acc => Q (.own acc)),
    ⟨_, rfl, Nat.zero_le _, F1, [], [], by omega, er1.refl.pure (Stp.new hD) (x.dm.new hD), upd_same, nf1, .nil, q1⟩, ?_⟩
  rintro i m H' ⟨rfl, hi, F', us, acc, ce, x', hD', nf', ra, q'⟩
  have hm1 : i * (κ2 + κ3) ≤ ds.length * (κ2 + κ3) := Nat.mul_le_mul_right _ hi
  have fm : FM F1 F' H1 H' := x'.st.toFM
  by_cases hlt : i < ds.length
  · refine .inr ⟨wk.go i F' H' fm x'.dm hlt, fun H3 => ∃ (F3 : FS) (us : List V) (acc : List PyData), F3.ck ≤ F1.ck + (i + 1) * (κ2 + κ3) ∧ Ext ρ F1 H1 F3 H3 ∧ H3 D = some (.lst us) ∧ ¬ F3 D ∧ RA X.K F3 H3 us acc ∧ cLoop g c t (wipeV ρ vs) (ds.drop (i + 1)) acc (fun acc => Q (.own acc)),
      fun H3 z => ⟨ds.length - (i + 1), by omega, rfl, hlt, z⟩, fun y H2 hy => ?_⟩
    have hd : ds[i]? = some (ds[i]'hlt) := List.getElem?_eq_getElem hlt
    have hm2 : (i + 1) * (κ2 + κ3) ≤ ds.length * (κ2 + κ3) := Nat.mul_le_mul_right _ hlt
    have hm3 : (i + 1) * (κ2 + κ3) = i * (κ2 + κ3) + (κ2 + κ3) := Nat.succ_mul i _
    obtain ⟨F2, c2, st, dm, r⟩ := wk.yld i F' H' y H2 _ fm x'.dm hd hy
    have x2 : Ext ρ F1 H1 F2 H2 := x'.pure st dm
    have keepD : ∀ {F4 : FS} {H4 : Hp} {F5 : FS} {H5 : Hp} {ρ4 : Env} {ws : List V} {zs : List PyData}, Ext ρ4 F4 H4 F5 H5 → CSub ρ4 ρ → H4 D = some (.lst ws) → ¬ F4 D → RA X.K F4 H4 ws zs → H5 D = some (.lst ws) ∧ ¬ F5 D ∧ RA X.K F5 H5 ws zs := by
      intro F4 H4 F5 H5 ρ4 ws zs x4 cs e4 n4 r4
      refine ⟨x4.st.kp _ _ e4 fun c => x.cp D (csub_cells cs c) hD0, fun z => (x4.st.nw D z).elim n4 fun z => ?_, Rp.mono x4.st.toFM r4⟩
      rw [z] at e4; cases e4
    have hD2 : H2 D = some (.lst us) := st.kp _ _ hD' (fun z => z)
    have nf2 : ¬ F2 D := fun z => (st.nw D z).elim nf' fun z => by rw [z] at hD'; cases hD'
    have ra2 : RA X.K F2 H2 us acc := Rp.mono st.toFM ra
    rw [List.drop_eq_getElem_cons hlt] at q'
    have erw := (er1.step x2).wipe vs
    refine ⟨B, F2, wipeV ρ vs, _, _, erw, r, q', fun σ3 ρ3 er3 w3 q3 => ⟨?_, ?_⟩⟩
    · have w4 := w3.1 vs his
      have : ∀ vs' : List Nat, wipe (wipe σ vs') vs' = wipe σ vs' := fun vs' => by
        apply List.ext_getElem?
        intro j
        by_cases hj : j ∈ vs'
        · have no : ∀ τ : Hs, (wipe τ vs')[j]? = (if j < τ.length then some none else none) := fun τ => by
            by_cases hl : j < τ.length
            · rcases e1 : (wipe τ vs')[j]? with _ | o
              · rw [List.getElem?_eq_none_iff, wipe_length] at e1; omega
              · cases o with
                | none => simp [hl]
                | some v => exact absurd hj (wipe_some e1).2
            · rw [List.getElem?_eq_none_iff.mpr (by rw [wipe_length]; omega)]; simp [hl]
          rw [no, no, wipe_length]
        · rw [wipe_out hj]
      rw [w4, this]
    · refine ⟨B, F2, ρ3, _, er3, by omega, q3, fun b F4 H4 c4 q4 x4 => ?_⟩
      have cs3 : CSub ρ3 ρ := w3.2.trans csub_wipe
      obtain ⟨d4, n4, r4⟩ := keepD x4 cs3 hD2 nf2 ra2
      have x4' := x2.sub x4 cs3
      cases b with
      | false => exact ⟨F4, us, acc, by omega, x4', d4, n4, r4, q4⟩
      | true =>
        refine ⟨B, F4, ρ3, _, er3.step x4, by omega, q4, fun s u F5 H5 c5 ⟨z, e5, hz, q5⟩ x5 => ?_⟩
        obtain ⟨F6, c6, x6, r6⟩ := data_all (us := [u]) (ss := [s]) x5.toExt ⟨x5.sr, x5.fo, trivial⟩ e5
        obtain ⟨d5, n5, r5⟩ := keepD x6 cs3 d4 n4 r4
        have x7 := x4'.sub x6 cs3
        refine ⟨us, d5, ?_, F6, us ++ [u], acc ++ [z], by omega, ⟨x7.st.mut hD, ?_, fun j a ns ej => (x7.cl j a ns ej).mut (fun z => x7.cp a ⟨j, ns, ej⟩ (by rw [z]; exact hD)) n5, x7.cp⟩, upd_same, n5, ?_, q5⟩
        · rw [r5.len]; exact Nat.lt_of_lt_of_le hz (by decide)
        · intro a f
          obtain ⟨ws, e, l⟩ := x7.dm a f
          exact ⟨ws, by rw [upd_ne (fun z => n5 (by rw [← z]; exact f))]; exact e, l⟩
        · have m := FM.write (c := .lst) (c' := .lst) (vs := us ++ [u]) d5 n5
          exact RA.append (Rp.mono m r5) (Rp.mono m r6)
  · have e : i = ds.length := by omega
    subst e
    rw [List.drop_length] at q'
    refine .inl ⟨wk.stop F' H' fm x'.dm, k _ _ F' H' (by omega) q' ⟨x.trans x', ⟨D, us, rfl, hD', nf', ra⟩, fun p e => ?_⟩⟩
    cases e
    exact hD0
/-- at most L turns, in whose turns draws are made -/
def vLcL (L : Nat) (it : TVl) (g : TGt) (c : TVb) (t : TV) (vs : List Nat) : TV := fun ρ Q => it ρ fun ds => ds.length ≤ L ∧ cLoop g c t (wipeV ρ vs) ds [] fun acc => Q (.own acc)
theorem vLc_true : (fun (ρ : Env) (Q : SV → Prop) => it ρ fun ds => True ∧ cLoop g c t (wipeV ρ vs) ds [] fun acc => Q (.own acc)) = vLc it g c t vs := by
  funext ρ Q
  unfold vLc
  congr 1
  funext ds
  exact propext ⟨fun h => h.2, fun h => ⟨trivial, h⟩⟩
theorem lc_go0 {w : Bool} {κ1 : Nat} (hi : VI w X tg iter it κ1) (his : ∀ i ∈ is, i ∈ vs) : ∃ wi, PI X tg iter wi ∧ RE X (vLc it g c t vs) κ1 (tLc wi (canG w X.K is g) (canT X.K c 0) (canE X.K t 0) vs) := by
  have h := lc_go (g := g) (c := c) (t := t) (κ2 := 0) (κ3 := 0) hi his 0 (fun _ => True) fun ds _ => by omega
  rw [vLc_true] at h
  exact h
theorem lc_goL {w : Bool} (L : Nat) {κ1 κ2 κ3 : Nat} (hi : VI w X tg iter it κ1) (his : ∀ i ∈ is, i ∈ vs) : ∃ wi, PI X tg iter wi ∧ RE X (vLcL L it g c t vs) (κ1 + L * (κ2 + κ3)) (tLc wi (canG w X.K is g) (canT X.K c κ2) (canE X.K t κ3) vs) :=
  lc_go hi his (L * (κ2 + κ3)) (fun ds => ds.length ≤ L) fun ds h => Nat.mul_le_mul_right _ h
theorem ve_lc {w : Bool} {κ1 κ2 κ3 : Nat} (h : ∀ wi gt tt te, PI X tg iter wi → Bk X scope (PG · tg gt) → Bk X scope (PTs · ifs tt) → Bk X scope (PE · elt te) → PE X e (tLc wi gt tt te vs))
    (hi : VI w X tg iter it κ1) (hg : Bk X scope (VTg w · is tg g)) (hc : Bk X scope (VTs · ifs c κ2)) (he : Bk X scope (VE · elt t κ3)) (his : ∀ i ∈ is, i ∈ vs) (h0 : κ2 + κ3 = 0 := by omega) : VE X e (vLc it g c t vs) κ1 := by
  obtain ⟨rfl, rfl⟩ : κ2 = 0 ∧ κ3 = 0 := ⟨by omega, by omega⟩
  obtain ⟨wi, pi, gi⟩ := lc_go0 (g := g) (c := c) (t := t) hi his
  exact ⟨_, h wi (canG w X.K is g) (canT X.K c 0) (canE X.K t 0) pi (fun s H C cl fp => (hg s H C cl fp).can) (fun s H C cl fp => (hc s H C cl fp).can) (fun s H C cl fp => (he s H C cl fp).can), gi⟩
theorem ve_lcL {w : Bool} (L : Nat) {κ1 κ2 κ3 : Nat} (h : ∀ wi gt tt te, PI X tg iter wi → Bk X scope (PG · tg gt) → Bk X scope (PTs · ifs tt) → Bk X scope (PE · elt te) → PE X e (tLc wi gt tt te vs))
    (hi : VI w X tg iter it κ1) (hg : Bk X scope (VTg w · is tg g)) (hc : Bk X scope (VTs · ifs c κ2)) (he : Bk X scope (VE · elt t κ3)) (his : ∀ i ∈ is, i ∈ vs) : VE X e (vLcL L it g c t vs) (κ1 + L * (κ2 + κ3)) := by
  obtain ⟨wi, pi, gi⟩ := lc_goL (g := g) (c := c) (t := t) (κ2 := κ2) (κ3 := κ3) L hi his
  exact ⟨_, h wi (canG w X.K is g) (canT X.K c κ2) (canE X.K t κ3) pi (fun s H C cl fp => (hg s H C cl fp).can) (fun s H C cl fp => (hc s H C cl fp).can) (fun s H C cl fp => (he s H C cl fp).can), gi⟩
/-- y = [..] on one line -/
theorem vs_setLc {w : Bool} {κ1 κ2 κ3 : Nat} {st : Stmt} {i : Nat} (own : Bool) (h : ∀ wi gt tt te, PI X tg iter wi → Bk X scope (PG · tg gt) → Bk X scope (PTs · ifs tt) → Bk X scope (PE · elt te) → PS X st (tAsg (tLc wi gt tt te vs) (gName i)))
    (hi : VI w X tg iter it κ1) (hg : Bk X scope (VTg w · is tg g)) (hc : Bk X scope (VTs · ifs c κ2)) (he : Bk X scope (VE · elt t κ3)) (his : ∀ i ∈ is, i ∈ vs) (h0 : κ2 + κ3 = 0 := by omega) :
    VS X st (if own = true then vAsgO i (vLc it g c t vs) else vAsg i (vLc it g c t vs)) κ1 := by
  obtain ⟨rfl, rfl⟩ : κ2 = 0 ∧ κ3 = 0 := ⟨by omega, by omega⟩
  obtain ⟨wi, pi, gi⟩ := lc_go0 (g := g) (c := c) (t := t) hi his
  refine ⟨_, h wi (canG w X.K is g) (canT X.K c 0) (canE X.K t 0) pi (fun s H C cl fp => (hg s H C cl fp).can) (fun s H C cl fp => (hc s H C cl fp).can) (fun s H C cl fp => (he s H C cl fp).can), ?_⟩
  cases own with
  | true => exact asgO_go gi
  | false => exact asg_go gi
theorem vs_setLcL {w : Bool} (L : Nat) {κ1 κ2 κ3 : Nat} {st : Stmt} {i : Nat} (own : Bool) (h : ∀ wi gt tt te, PI X tg iter wi → Bk X scope (PG · tg gt) → Bk X scope (PTs · ifs tt) → Bk X scope (PE · elt te) → PS X st (tAsg (tLc wi gt tt te vs) (gName i)))
    (hi : VI w X tg iter it κ1) (hg : Bk X scope (VTg w · is tg g)) (hc : Bk X scope (VTs · ifs c κ2)) (he : Bk X scope (VE · elt t κ3)) (his : ∀ i ∈ is, i ∈ vs) :
    VS X st (if own = true then vAsgO i (vLcL L it g c t vs) else vAsg i (vLcL L it g c t vs)) (κ1 + L * (κ2 + κ3)) := by
  obtain ⟨wi, pi, gi⟩ := lc_goL (g := g) (c := c) (t := t) (κ2 := κ2) (κ3 := κ3) L hi his
  refine ⟨_, h wi (canG w X.K is g) (canT X.K c κ2) (canE X.K t κ3) pi (fun s H C cl fp => (hg s H C cl fp).can) (fun s H C cl fp => (hc s H C cl fp).can) (fun s H C cl fp => (he s H C cl fp).can), ?_⟩
  cases own with
  | true => exact asgO_go gi
  | false => exact asg_go gi
end
end

/-! ### defs -/
abbrev TF := List SV → (SV → Prop) → Prop
/-- a def's promise by its meaning over values -/
def spOf (K : PySem.W.Frag) (n κ : Nat) (t : TF) : Sp := fun vs H R _ => vs.length = n ∧ ∃ F ss, ∃ Q : SV → Prop, FOk F H ∧ AllH K F H vs ss ∧ (∀ s ∈ ss, (∀ c ds, s ≠ .ow c ds) ∧ NoBrw s) ∧ F.ck + κ ≤ LIM ∧ t ss Q ∧
  ∀ s u (F' : FS) H', F'.ck ≤ F.ck + κ → Q s → NoBrw s → Res K ss F H F' H' s u → R u H'
def envOf (N : Nat) (ss : List SV) : Env := ss ++ List.replicate (N - ss.length) .un
def vDef (N : Nat) (t : TVS) : TF := fun ss Q => t ⟨fun _ => Q (.v .none), Q, fun _ => False, fun _ => False⟩ (envOf N ss)
theorem AllH.len {K : PySem.W.Frag} {F : FS} {H : Hp} : ∀ {us : List V} {ss : List SV}, AllH K F H us ss → us.length = ss.length
  | [], [], _ => rfl
  | _ :: _, _ :: _, ⟨_, c⟩ => congrArg Nat.succ (AllH.len c)
  | [], _ :: _, h => h.elim
  | _ :: _, [], h => h.elim
theorem AllH.get {K : PySem.W.Frag} {F : FS} {H : Hp} : ∀ {us : List V} {ss : List SV} (_ : AllH K F H us ss) {i : Nat} {s : SV}, ss[i]? = some s → ∃ u, us[i]? = some u ∧ SlotR K F H u s
  | [], [], _, _, _, e => by simp at e
  | u :: _, _ :: _, ⟨a, _⟩, 0, s, e => by simp at e; subst e; exact ⟨u, rfl, a⟩
  | _ :: _, _ :: _, ⟨_, b⟩, i + 1, s, e => by
    obtain ⟨u, h1, h2⟩ := AllH.get b (i := i) (s := s) (by simpa using e)
    exact ⟨u, by simpa using h1, h2⟩
  | [], _ :: _, h, _, _, _ => h.elim
  | _ :: _, [], h, _, _, _ => h.elim
theorem env_get {N : Nat} {ss : List SV} {i : Nat} {s : SV} (hs : s ≠ .un) (h : (envOf N ss)[i]? = some s) : ss[i]? = some s := by
  unfold envOf at h
  by_cases z : i < ss.length
  · rwa [List.getElem?_append_left z] at h
  · rw [List.getElem?_append_right (by omega), List.getElem?_replicate] at h
    split at h
    · exact absurd (Option.some.inj h).symm hs
    · cases h
/-- a def's frame as it begins -/
def basOf (F : FS) (H : Hp) (ss : List SV) : Bas := ⟨F, H, fun a ns => ∃ i : Nat, ss[i]? = some (.cell a ns), fun _ _ => False⟩
theorem ER.begin {K : PySem.W.Frag} {F : FS} {H : Hp} {vs : List V} {ss : List SV} {N : List Str} (d : FOk F H) (a : AllH K F H vs ss) (no : ∀ s ∈ ss, (∀ c ds, s ≠ .ow c ds) ∧ NoBrw s) :
    ER K (basOf F H ss) F H (start N vs) (envOf N.length ss) := by
  have hl := a.len
  have cell : ∀ {i : Nat} {x : Addr} {ns : Cel}, ss[i]? = some (.cell x ns) → CI F H x ns := fun {i x ns} e => by
    obtain ⟨u, _, _, c⟩ := a.get e
    exact c
  have noOwn : ∀ {i : Nat} {c : CT} {ds : List PyData}, (envOf N.length ss)[i]? ≠ some (.ow c ds) := fun {i c ds} e => by
    have e2 := env_get (s := _) (by intro z; cases z) e
    exact (no _ (List.mem_of_getElem? e2)).1 c ds rfl
  refine ⟨?_, fun i s e hn => ?_, fun i c ds e => ?_, fun i j c c' ds es p h1 _ _ _ => absurd h1 noOwn, fun i c ds p h1 _ => absurd h1 noOwn, fun x ⟨i, ns, e⟩ => .inl ⟨ns, i, env_get (fun z => nomatch z) e⟩, Stp.refl, fun x ns ⟨i, e⟩ => ⟨cell e, (cell e).there⟩, fun x o z => z.elim, d⟩
  · show (List.map some vs ++ List.replicate (N.length - vs.length) none).length = _
    unfold envOf
    simp [hl]
  · have e2 := env_get hn e
    obtain ⟨u, h1, h2⟩ := a.get e2
    refine ⟨u, ?_, h2⟩
    show (List.map some vs ++ List.replicate (N.length - vs.length) none)[i]? = _
    have hi : i < vs.length := (List.getElem?_eq_some_iff.mp h1).1
    rw [List.getElem?_append_left (by simpa using hi), List.getElem?_map, h1]
    rfl
  · have e2 := env_get (s := _) (by intro z; cases z) e
    exact (no _ (List.mem_of_getElem? e2)).2 c ds rfl
theorem Fin.res {K : PySem.W.Frag} {F F' : FS} {H H' : Hp} {ss : List SV} {s : SV} {u : V} (f : Fin K (basOf F H ss) F' H' s u) (nb : NoBrw s) (cp : ∀ a, cellsOf ss a → H a ≠ none) : Res K ss F H F' H' s u := by
  refine ⟨⟨f.st.more fun a ⟨ns, i, e⟩ => ⟨i, ns, e⟩, f.dm, fun i a ns e => f.kb a ns ⟨i, e⟩, cp⟩, f.sr, ?_⟩
  have fo := f.fo
  cases s with
  | ow c ds => exact fo
  | bw c ds => exact absurd rfl (nb c ds)
  | cell a ns => exact fo
  | _ => trivial
/-- where one stands in a def's body -/
structure In (k : Nat) (P : Program) (w : World) (K : PySem.W.Frag) (mg : Str → Option Value) (base : Heap) (X : Cx) : Prop where
  prog : X.prog = P
  w : X.w = w
  K : X.K = K
  mg : X.mg = mg
  base : X.base = base
  rm : Room k X.A
  st : Still X.A
section
variable {P : Program} {w : World} {K : PySem.W.Frag} {mg : Str → Option Value} {base : Heap}
theorem def_body {k κ : Nat} {x qual : Str} {pr : Arguments} {body : List Stmt} {sc : Scope} {dV kV doc pm cdv ct oc : Value} {an od : Option Addr} {osl : Array (Option Value)} {N ps : List Str} {f : Addr} {t : TVS}
    (lk : K.lookup f = some ⟨oc, od, .func (PySem.W.fnOf x qual pr body sc dV kV doc pm an cdv ct), osl⟩) (cd : PySem.W.codeIn K cdv qual = true) (S : FnScope N ps sc)
    (hb : ∀ (A : Around) (outer : List PySem.Env) (s : Shared) (H : Hp) (E : XK), Room k (A.deeper (envOfC qual sc s.heap.objs.size f cdv)) → Still A → ∃ κ', κ' ≤ κ ∧ VSs (cxOf CX0 P w K mg base N qual sc f cdv A outer s H E).nox body t κ') :
    GOk P w K mg base CX0 (k + 1) f (PySem.W.fnOf x qual pr body sc dV kV doc pm an cdv ct) ps (spOf K ps.length κ (vDef N.length t)) := by
  refine gok_of lk cd S (fun vs H Q E h => h.1) fun A gd outer s H vs Q E hr ⟨hl, F, ss, Qv, fo, ah, no, bq, ht, k⟩ => ?_
  obtain ⟨κ', hκ, ts, pss, g⟩ := hb A outer s H E hr gd
  refine ⟨ts, pss.nox, ?_⟩
  have er := ER.begin (N := N) fo ah no
  have cp : ∀ a, cellsOf ss a → H a ≠ none := fun a ⟨i, ns, e⟩ => by
    obtain ⟨u, _, _, c⟩ := ah.get e
    exact c.there
  exact g (basOf F H ss) F H _ _ _ _ er (by omega) ht ⟨fun F' H' σ' ρ' c er' q => k _ _ F' H' (by omega) q (fun _ _ z => nomatch z) ((er'.fin (s := .v .none) ⟨er'.refl, .non, trivial⟩).res (fun _ _ z => nomatch z) cp), fun s u F' H' c q nb f => k s u F' H' (by omega) q nb (f.res nb cp), fun _ _ _ _ _ _ q => q.elim, fun _ _ _ _ _ _ q => q.elim⟩
end
end VL
namespace VL
open PySem PySem.Spec PyProof.Rows L2 VG

section
variable {K : PySem.W.Frag} {B : Bas} {F F' F1 F2 : FS} {H H' H1 H2 : Hp} {σ : Hs} {ρ ρ' : Env} {s : SV} {u : V}
/-- a step of feeds of ours, or of new ones -/
theorem Ext.sub2 (a : Ext ρ F H F1 H1) (b : Ext ρ' F1 H1 F2 H2) (h : ∀ (i : Nat) (x : Addr) (ns : Cel), ρ'[i]? = some (SV.cell x ns) → (∃ j : Nat, ρ[j]? = some (SV.cell x ns)) ∨ H x = none) : Ext ρ F H F2 H2 := by
  have hm : ∀ x, cellsOf ρ' x → cellsOf ρ x ∨ H x = none := fun x ⟨i, ns, e⟩ => (h i x ns e).imp (fun ⟨j, q⟩ => ⟨j, ns, q⟩) id
  refine ⟨a.st.join b.st hm, b.dm, fun i x ns e => ?_, a.cp⟩
  by_cases z : cellsOf ρ' x
  · obtain ⟨j, ms, q⟩ := z
    rcases h j x ms q with ⟨k, q2⟩ | q2
    · have e2 := (a.cl i x ns e).uniq (a.cl k x ms q2)
      subst e2
      exact b.cl j x ns q
    · exact absurd q2 (a.cp x ⟨i, ns, e⟩)
  · exact (a.cl i x ns e).keep b.st z
theorem hands_get : ∀ {ss ts : List SV}, hands ss = some ts → ∀ {i : Nat} {t : SV}, ts[i]? = some t → ∃ s, ss[i]? = some s ∧ s.hand = some t
  | [], ts, e, i, t, h => by cases e; simp at h
  | s :: ss, ts, e, i, t, h => by
    unfold hands at e
    rcases e1 : s.hand with _ | t1
    · rw [e1] at e; cases e
    · rcases e2 : hands ss with _ | ts1
      · rw [e1, e2] at e; cases e
      · rw [e1, e2] at e
        cases e
        cases i with
        | zero => simp at h; subst h; exact ⟨s, rfl, e1⟩
        | succ i =>
          obtain ⟨s', q1, q2⟩ := hands_get e2 (i := i) (t := t) (by simpa using h)
          exact ⟨s', by simpa using q1, q2⟩
theorem AllR.get {Hs : Hp} : ∀ {us : List V} {ss : List SV} (_ : AllR K ρ F H Hs us ss) {i : Nat} {s : SV}, ss[i]? = some s → ∃ u, us[i]? = some u ∧ SlotR K F H u s ∧ Fo ρ Hs u s
  | [], [], _, _, _, e => by simp at e
  | u :: _, _ :: _, ⟨a, b, _⟩, 0, s, e => by simp at e; subst e; exact ⟨u, rfl, a, b⟩
  | _ :: _, _ :: _, ⟨_, _, c⟩, i + 1, s, e => by
    obtain ⟨u, h1, h2⟩ := AllR.get c (i := i) (s := s) (by simpa using e)
    exact ⟨u, by simpa using h1, h2⟩
  | [], _ :: _, h, _, _, _ => h.elim
  | _ :: _, [], h, _, _, _ => h.elim
theorem AllH.append : ∀ {us : List V} {ss : List SV} {vs : List V} {ts : List SV}, AllH K F H us ss → AllH K F H vs ts → AllH K F H (us ++ vs) (ss ++ ts)
  | [], [], _, _, _, h => h
  | _ :: _, _ :: _, _, _, ⟨a, b⟩, h => ⟨a, AllH.append b h⟩
  | [], _ :: _, _, _, h, _ => h.elim
  | _ :: _, [], _, _, h, _ => h.elim
theorem AllH.of_ra : ∀ {us : List V} {ds : List PyData}, RA K F H us ds → AllH K F H us (ds.map SV.v)
  | [], [], .nil => trivial
  | _ :: _, _ :: _, .cons a b => ⟨a, AllH.of_ra b⟩
theorem AllR.hs {Hs : Hp} : ∀ {us : List V} {ss : List SV}, AllR K ρ F H Hs us ss → AllH K F H us ss
  | [], [], _ => trivial
  | _ :: _, _ :: _, ⟨a, _, c⟩ => ⟨a, AllR.hs c⟩
  | [], _ :: _, h => h.elim
  | _ :: _, [], h => h.elim
theorem hand_cell_inv {s : SV} {a : Addr} {ns : Cel} (e : s.hand = some (.cell a ns)) : s = .cell a ns := by
  cases s with
  | ow c ds => exact absurd (Option.some.inj e) CT.fro_cell
  | cell b ms => exact Option.some.inj e
  | _ => cases e
/-- a list of four places that is handed on stands in the frame -/
def inE (s : SV) : List SV → Prop
  | [] => False
  | t :: r => t = s ∨ inE s r
def okTap (ρ : Env) : SV → Prop
  | .cell a ns => inE (.cell a ns) ρ
  | _ => True
def TapsOld (ρ : Env) : List SV → Prop
  | [] => True
  | s :: ss => okTap ρ s ∧ TapsOld ρ ss
theorem inE_at {s : SV} : ∀ {ρ : List SV}, inE s ρ → ∃ i : Nat, ρ[i]? = some s
  | [], h => h.elim
  | t :: r, h => by
    rcases h with h | h
    · exact ⟨0, by rw [h]; rfl⟩
    · obtain ⟨i, e⟩ := inE_at h
      exact ⟨i + 1, by simpa using e⟩
theorem taps_at {a : Addr} {ns : Cel} : ∀ {ss : List SV}, TapsOld ρ ss → SV.cell a ns ∈ ss → ∃ i : Nat, ρ[i]? = some (SV.cell a ns)
  | [], _, h => by cases h
  | s :: ss, ⟨h1, h2⟩, h => by
    rcases List.mem_cons.mp h with h | h
    · subst h
      exact inE_at h1
    · exact taps_at h2 h
/-- arguments handed on to a def; what it leaves -/
theorem call_go {n κ : Nat} {tf : TF} {ts : List SV} {ss : List SV} {us vs : List V} {dss : List PyData} {Q : SV → Prop} {R : VK} (x : Ext ρ F H F1 H1) (al : AllR K ρ F1 H1 H us ss) (old0 : TapsOld ρ ss) (e : hands ss = some ts)
    (hd : ∀ F H, RA K F H vs dss) (hn : ts.length + dss.length = n) (bq : F1.ck + κ ≤ LIM) (h : tf (ts ++ dss.map .v) Q) (k : ∀ s u (F' : FS) H', F'.ck ≤ F1.ck + κ → Q s → Res K ρ F H F' H' s u → R u H') : spOf K n κ tf (us ++ vs) H1 R E0 := by
  have hN := AllR.owns al
  have x2 := x.frz hN
  have ah : AllH K _ H1 us ts := hand_all x al e hN (fun a z => z) fun a ns z q => by
    obtain ⟨i, e⟩ := taps_at old0 z
    exact x.cp a ⟨i, _, e⟩ (hN a q).1
  have ad := (AllH.of_ra (hd (F1.or (ownsIn us ss)) H1))
  refine ⟨?_, _, ts ++ dss.map .v, Q, x2.dm, ah.append ad, fun s hs => ?_, bq, h, fun s u F' H' cq q nb r => ?_⟩
  · rw [List.length_append, ah.len, ad.len, List.length_map]; exact hn
  · rcases List.mem_append.mp hs with hs | hs
    · obtain ⟨i, hi⟩ := List.getElem?_of_mem hs
      obtain ⟨s0, _, q⟩ := hands_get e hi
      refine ⟨fun c ds z => ?_, hand_nb q⟩
      subst z
      exact hand_no q
    · obtain ⟨d, _, rfl⟩ := List.mem_map.mp hs
      exact ⟨(fun _ _ z => nomatch z), (fun _ _ z => nomatch z)⟩
  · have cs : ∀ (i : Nat) (a : Addr) (ns : Cel), (ts ++ dss.map SV.v)[i]? = some (SV.cell a ns) → (∃ j : Nat, ρ[j]? = some (SV.cell a ns)) ∨ H a = none := by
      intro i a ns hi
      by_cases hl : i < ts.length
      · rw [List.getElem?_append_left hl] at hi
        obtain ⟨s0, q1, q2⟩ := hands_get e hi
        have : s0 = .cell a ns := hand_cell_inv q2
        subst this
        obtain ⟨u0, _, _, fo⟩ := al.get q1
        exact fo
      · rw [List.getElem?_append_right (by omega), List.getElem?_map] at hi
        cases hq : dss[i - ts.length]? with
        | none => rw [hq] at hi; cases hi
        | some d => rw [hq] at hi; cases hi
    refine k s u F' H' cq q ⟨x2.sub2 r.toExt cs, r.sr, ?_⟩
    have old : ∀ a, H1 a = none → H a = none := fun a z => by
      by_cases w : H a = none
      · exact w
      · exact absurd z (x.st.ex a w)
    have fo := r.fo
    cases s with
    | ow c ds => exact fun p z => old p (fo p z)
    | bw c ds => exact absurd rfl (nb c ds)
    | cell a ns =>
      rcases fo with ⟨i, z⟩ | z
      · exact cs i a ns z
      · exact .inr (old a z)
    | _ => trivial
end

section
variable {X : Cx} {e : Expr} {es : List Expr}
/-- f(e, ..): dss its defaults -/
def vCall (n : Nat) (tf : TF) (dss : List PyData) (t : TVs) : TV := fun ρ Q => t ρ fun ss => TapsOld ρ ss ∧ ∃ ts, hands ss = some ts ∧ ts.length + dss.length = n ∧ tf (ts ++ dss.map .v) Q
theorem ve_call {κ1 κ : Nat} {n : Nat} {tf : TF} {dvs : List V} {dss : List PyData} {t : TVs} (h : ∀ ta, PA X es ta → PE X e (tCall (spOf X.K n κ tf) dvs E0 ta)) (hd : ∀ F H, RA X.K F H dvs dss) (ha : VA X es t κ1) : VE X e (vCall n tf dss t) (κ1 + κ) := by
  obtain ⟨ta, pa, g⟩ := ha
  refine ⟨_, h ta pa, fun B F H σ ρ Q R er bq t k => ?_⟩
  exact g B F H σ ρ _ _ er (by omega) t fun ss us F1 H1 cq ⟨ol, ts, e, hn, q⟩ x al => call_go x al ol e hd hn (by omega) q fun s u F' H' c => k s u F' H' (by omega)
/-- f() -/
theorem ve_call0 {n κ : Nat} {tf : TF} {dvs : List V} {dss : List PyData} (h : PE X e (tCall (spOf X.K n κ tf) dvs E0 tNil)) (hd : ∀ F H, RA X.K F H dvs dss) : VE X e (vCall n tf dss vNil) κ := by
  refine ⟨_, h, fun B F H σ ρ Q R er bq ⟨ol, ts, e, hn, q⟩ k => ?_⟩
  exact call_go (us := []) (ss := []) er.refl trivial ol e hd hn bq q k
/-- a promise known by less: its meaning by another one that follows -/
theorem spOf.imp {K : PySem.W.Frag} {n κ : Nat} {t t' : TF} (h : ∀ ss Q, t' ss Q → t ss Q) (vs : List V) (H : Hp) (Q : VK) (E : XK) (q : spOf K n κ t' vs H Q E) : spOf K n κ t vs H Q E := by
  obtain ⟨hl, F, ss, Qv, a, b, c, bq, d, k⟩ := q
  exact ⟨hl, F, ss, Qv, a, b, c, bq, h ss Qv d, k⟩

/-! ### built-ins -/
def CallS (K : PySem.W.Frag) (r : List V → Hp → VK → Prop) (f : List SV → (SV → Prop) → Prop) : Prop := ∀ F H us ss (Q : SV → Prop) (R : VK), FOk F H → AllH K F H us ss → f ss Q →
  (∀ s z F' H', Q s → NoBrw s → PRes K F H F' H' s z → R z H') → r us H R
def vCB (f : List SV → (SV → Prop) → Prop) (t : TVs) : TV := fun ρ Q => t ρ fun ss => f ss Q
theorem ve_cb {κ1 : Nat} {r : List V → Hp → VK → Prop} {f : List SV → (SV → Prop) → Prop} {t : TVs} (h : ∀ ta, PA X es ta → PE X e (tCB r ta)) (hs : CallS X.K r f) (ha : VA X es t κ1) : VE X e (vCB f t) κ1 := by
  obtain ⟨ta, pa, g⟩ := ha
  refine ⟨_, h ta pa, fun B F H σ ρ Q R er bq t k => ?_⟩
  exact g B F H σ ρ _ _ er (by omega) t fun ss us F1 H1 cq q x al => hs F1 H1 us ss _ _ x.dm al.hs q fun s z F2 H2 q2 nb r => k s z F2 H2 (by have := r.ce; omega) q2 (r.res x nb)
end

/-! ### what a slot is read as -/
def SV.asL : SV → Option (List PyData)
  | .v (.list ds) => some ds
  | .ow .lst ds => some ds
  | .bw .lst ds => some ds
  | .scr ns => some (ns.map .int)
  | _ => none
def SV.asW : SV → Option (List PyData)
  | .v (.list ds) => some ds
  | .ow .lst ds => some ds
  | .bw .lst ds => some ds
  | _ => none
def SV.asT : SV → Option (List PyData)
  | .v (.tuple ds) => some ds
  | _ => none
def SV.asQ (s : SV) : Option (List PyData) := match s.asL with
  | some ds => some ds
  | none => s.asT
def SV.asD : SV → Option PyData
  | .v d => some d
  | .ow .lst ds => some (.list ds)
  | .bw .lst ds => some (.list ds)
  | .scr ns => some (.list (ns.map .int))
  | _ => none
section
variable {K : PySem.W.Frag} {F : FS} {H : Hp} {s : SV} {u : V} {ds : List PyData}
theorem asL_sq (h : SlotR K F H u s) (e : s.asL = some ds) : ∃ a xs, u = .ref a ∧ SqL K H a xs ∧ RA K F H xs ds := by
  cases s with
  | v d =>
    cases d with
    | list es =>
      cases e
      cases (show R1 K F H u (.list ds) from h) with
      | lst f q r => exact ⟨_, _, rfl, SqL.of q, r⟩
    | _ => cases e
  | ow c es =>
    cases c with
    | lst =>
      cases e
      obtain ⟨p, us, rfl, q, _, r⟩ := h
      exact ⟨p, us, rfl, SqL.of q, r⟩
    | _ => cases e
  | bw c es =>
    cases c with
    | lst =>
      cases e
      obtain ⟨p, us, rfl, q, r⟩ := h
      exact ⟨p, us, rfl, SqL.of q, r⟩
    | _ => cases e
  | scr ns =>
    cases e
    obtain ⟨a, rfl, q⟩ := h
    exact ⟨a, _, rfl, q H fun _ _ _ z => z, RA.ints ns⟩
  | _ => cases e
theorem asW_at (h : SlotR K F H u s) (e : s.asW = some ds) : ∃ a xs, u = .ref a ∧ H a = some (.lst xs) ∧ RA K F H xs ds := by
  cases s with
  | v d =>
    cases d with
    | list es =>
      cases e
      cases (show R1 K F H u (.list ds) from h) with
      | lst f q r => exact ⟨_, _, rfl, q, r⟩
    | _ => cases e
  | ow c es =>
    cases c with
    | lst =>
      cases e
      obtain ⟨p, us, rfl, q, _, r⟩ := h
      exact ⟨p, us, rfl, q, r⟩
    | _ => cases e
  | bw c es =>
    cases c with
    | lst =>
      cases e
      obtain ⟨p, us, rfl, q, r⟩ := h
      exact ⟨p, us, rfl, q, r⟩
    | _ => cases e
  | _ => cases e
theorem asT_sq (h : SlotR K F H u s) (e : s.asT = some ds) : ∃ a xs, u = .ref a ∧ SqN K H a xs ∧ RA K F H xs ds := by
  cases s with
  | v d =>
    cases d with
    | tuple es =>
      cases e
      cases (show R1 K F H u (.tuple ds) from h) with
      | tup q r => exact ⟨_, _, rfl, q, r⟩
    | _ => cases e
  | _ => cases e
theorem asQ_sq (h : SlotR K F H u s) (e : s.asQ = some ds) : ∃ a xs, u = .ref a ∧ (SqL K H a xs ∨ SqN K H a xs) ∧ RA K F H xs ds := by
  unfold SV.asQ at e
  rcases e1 : s.asL with _ | es
  · rw [e1] at e
    obtain ⟨a, xs, q1, q2, q3⟩ := asT_sq h e
    exact ⟨a, xs, q1, .inr q2, q3⟩
  · rw [e1] at e
    cases e
    obtain ⟨a, xs, q1, q2, q3⟩ := asL_sq h e1
    exact ⟨a, xs, q1, .inl q2, q3⟩
theorem nd_ints : ∀ ns : List Int, PyData.hasDictAll (ns.map PyData.int) = false
  | [] => rfl
  | _ :: ns => by simp [PyData.hasDictAll, PyData.hasDict, nd_ints ns]
/-- what a thing is at its top -/
inductive Sh (K : PySem.W.Frag) (H : Hp) : V → PyData → Prop
  | non : Sh K H .non .none
  | bl (b : Bool) : Sh K H (.bl b) (.bool b)
  | int (i : Int) : Sh K H (.int i) (.int i)
  | str (x : Str) : Sh K H (.str x) (.str x)
  | lst {a : Addr} {xs : List V} {ds : List PyData} : SqL K H a xs → Sh K H (.ref a) (.list ds)
  | tup {a : Addr} {xs : List V} {ds : List PyData} : SqT K H a xs → Sh K H (.ref a) (.tuple ds)
  | dic {a : Addr} {kvs : List (L2.Key × V)} {l : List (PyData × PyData)} : H a = some (.dK kvs) → Sh K H (.ref a) (.dict l)
theorem R1.sh {d : PyData} (h : R1 K F H u d) : Sh K H u d := by
  cases h with
  | non => exact .non
  | bl b => exact .bl b
  | int i => exact .int i
  | str x => exact .str x
  | lst _ q _ => exact .lst (SqL.of q)
  | tup q _ => exact .tup q.t
  | dic _ q _ => exact .dic q
theorem asD_sh {d : PyData} (h : SlotR K F H u s) (e : s.asD = some d) : Sh K H u d := by
  cases s with
  | v d' => cases e; exact R1.sh h
  | ow c es =>
    cases c with
    | lst =>
      obtain ⟨a, xs, rfl, q2, q3⟩ := asL_sq (ds := es) h rfl
      cases e
      exact .lst q2
    | _ => cases e
  | bw c es =>
    cases c with
    | lst =>
      obtain ⟨a, xs, rfl, q2, q3⟩ := asL_sq (ds := es) h rfl
      cases e
      exact .lst q2
    | _ => cases e
  | scr ns =>
    obtain ⟨a, xs, rfl, q2, q3⟩ := asL_sq (ds := ns.map .int) h rfl
    cases e
    exact .lst q2
  | _ => cases e
theorem asD_dp {d : PyData} (h : SlotR K F H u s) (e : s.asD = some d) (nd : d.hasDict = false) : Dp K H u d := by
  cases s with
  | v d' => cases e; exact R1.dp h nd
  | ow c es =>
    cases c with
    | lst =>
      obtain ⟨a, xs, rfl, q2, q3⟩ := asL_sq (ds := es) h rfl
      cases e
      exact .lst q2 (RA.dp q3 (by simpa [PyData.hasDict] using nd))
    | _ => cases e
  | bw c es =>
    cases c with
    | lst =>
      obtain ⟨a, xs, rfl, q2, q3⟩ := asL_sq (ds := es) h rfl
      cases e
      exact .lst q2 (RA.dp q3 (by simpa [PyData.hasDict] using nd))
    | _ => cases e
  | scr ns =>
    obtain ⟨a, xs, rfl, q2, q3⟩ := asL_sq (ds := ns.map .int) h rfl
    cases e
    exact .lst q2 (RA.dp q3 (nd_ints ns))
  | _ => cases e
theorem str_of {x : Str} (h : SlotR K F H u (.v (.str x))) : u = .str x := by
  cases (show R1 K F H u (.str x) from h) with
  | str x => rfl

/-! ### operations -/
abbrev FB := SV → SV → (SV → Prop) → Prop
/-- of two ints -/
def fII (C : Int → Int → Prop) (g : Int → Int → PyData) : FB := fun a b Q => ∃ i j, a = .v (.int i) ∧ b = .v (.int j) ∧ C i j ∧ Q (.v (g i j))
theorem ops_II {C : Int → Int → Prop} {gv : Int → Int → V} {g : Int → Int → PyData} (h : ∀ i j F H, R1 K F H (gv i j) (g i j)) : OpS K (rI C gv) (fII C g) := by
  intro F H u w a b Q R fo ra rb ⟨i, j, e1, e2, c, q⟩ k
  subst e1 e2
  exact ⟨i, j, int_of ra, int_of rb, c, k _ _ F H q (fun _ _ z => nomatch z) (.same fo (h i j F H))⟩
theorem ops_II0 {gv : Int → Int → V} {g : Int → Int → PyData} (h : ∀ i j F H, R1 K F H (gv i j) (g i j)) : OpS K (rI0 gv) (fII (fun _ _ => True) g) := by
  intro F H u w a b Q R fo ra rb ⟨i, j, e1, e2, _, q⟩ k
  subst e1 e2
  exact ⟨i, j, int_of ra, int_of rb, k _ _ F H q (fun _ _ z => nomatch z) (.same fo (h i j F H))⟩
theorem i1 (f : Int → Int → Int) : ∀ i j F H, R1 K F H (.int (f i j)) (.int (f i j)) := fun _ _ _ _ => .int _
theorem b1 (f : Int → Int → Bool) : ∀ i j F H, R1 K F H (.bl (f i j)) (.bool (f i j)) := fun _ _ _ _ => .bl _
abbrev r2or (r r' : R2) : R2 := fun x y H Q => r x y H Q ∨ r' x y H Q
theorem ops_or {r r' : R2} {f f' : FB} (h : OpS K r f) (h' : OpS K r' f') : OpS K (r2or r r') (fun a b Q => f a b Q ∨ f' a b Q) := by
  intro F H u w a b Q R fo ra rb q k
  rcases q with q | q
  · exact .inl (h F H u w a b Q R fo ra rb q k)
  · exact .inr (h' F H u w a b Q R fo ra rb q k)
/-- a + b: ints, texts, lists, tuples -/
abbrev rStrCat : R2 := fun x y H Q => ∃ i j, x = .str i ∧ y = .str j ∧ i.length + j.length ≤ sizeLine ∧ Q (.str (i ++ j)) H
def fAdd : FB := fun a b Q => match a, b with
  | .v (.int i), .v (.int j) => Q (.v (.int (i + j)))
  | .v (.str x), .v (.str y) => x.length + y.length ≤ sizeLine ∧ Q (.v (.str (x ++ y)))
  | .v (.tuple xs), .v (.tuple ys) => xs.length + ys.length ≤ sizeLine ∧ Q (.v (.tuple (xs ++ ys)))
  | .v (.bool x), .v (.int j) => Q (.v (.int ((if x = true then 1 else 0) + j)))
  | a, b => ∃ xs ys, a.asW = some xs ∧ b.asW = some ys ∧ xs.length + ys.length ≤ sizeLine ∧ Q (.own (xs ++ ys))
abbrev rBI (g : Bool → Int → Int) : R2 := fun x y H Q => ∃ b j, x = .bl b ∧ y = .int j ∧ Q (.int (g b j)) H
abbrev rIB (g : Int → Bool → Int) : R2 := fun x y H Q => ∃ j b, x = .int j ∧ y = .bl b ∧ Q (.int (g j b)) H
theorem op_addBI {X : Cx} : OpR X (binaryOp .Add) (rBI fun b j => (if b = true then 1 else 0) + j) := by
  intro pins s σ H x y v u Q I rx ry h
  obtain ⟨b, j, rfl, rfl, q⟩ := h
  obtain ⟨t, rfl⟩ := ry
  cases rx
  exact IntBool.add_bool_int ⟨.int _, H, Inv.tok I (s.toks + 1), ⟨s.toks, rfl⟩, q⟩
theorem op_subBI {X : Cx} : OpR X (binaryOp .Sub) (rBI fun b j => (if b = true then 1 else 0) - j) := by
  intro pins s σ H x y v u Q I rx ry h
  obtain ⟨b, j, rfl, rfl, q⟩ := h
  obtain ⟨t, rfl⟩ := ry
  cases rx
  exact IntBool.sub_bool_int ⟨.int _, H, Inv.tok I (s.toks + 1), ⟨s.toks, rfl⟩, q⟩
theorem op_subIB {X : Cx} : OpR X (binaryOp .Sub) (rIB fun j b => j - (if b = true then 1 else 0)) := by
  intro pins s σ H x y v u Q I rx ry h
  obtain ⟨j, b, rfl, rfl, q⟩ := h
  obtain ⟨t, rfl⟩ := rx
  cases ry
  exact IntBool.sub_int_bool ⟨.int _, H, Inv.tok I (s.toks + 1), ⟨s.toks, rfl⟩, q⟩
abbrev rAddAll (K : PySem.W.Frag) : R2 := r2or (rI0 fun i j => .int (i + j)) (r2or rStrCat (r2or (rCatN K) (r2or rCat (rBI fun b j => (if b = true then 1 else 0) + j))))
theorem op_addAll {X : Cx} : OpR X (binaryOp .Add) (rAddAll X.K) := op_add.or (op_add_str.or (op_catN.or (op_cat.or op_addBI)))
theorem ops_add : OpS K (rAddAll K) fAdd := by
  intro F H u w a b Q R fo ra rb q k
  have lists : (∃ xs ys, a.asW = some xs ∧ b.asW = some ys ∧ xs.length + ys.length ≤ sizeLine ∧ Q (.own (xs ++ ys))) → rAddAll K u w H R := by
    rintro ⟨xs, ys, e1, e2, hz, q⟩
    obtain ⟨p, us, rfl, h1, r1⟩ := asW_at ra e1
    obtain ⟨p', ws, rfl, h2, r2⟩ := asW_at rb e2
    exact .inr (.inr (.inr (.inl ⟨p, p', us, ws, rfl, rfl, h1, h2, by rw [r1.len, r2.len]; exact hz, fun l hl => k _ _ _ _ q (fun _ _ z => nomatch z) (.newL fo hl (r1.append r2))⟩)))
  unfold fAdd at q
  split at q
  · rw [int_of ra, int_of rb]
    exact .inl ⟨_, _, rfl, rfl, k _ _ F H q (fun _ _ z => nomatch z) (.same fo (.int _))⟩
  · rw [str_of ra, str_of rb]
    exact .inr (.inl ⟨_, _, rfl, rfl, q.1, k _ _ F H q.2 (fun _ _ z => nomatch z) (.same fo (.str _))⟩)
  · rename_i xs ys
    obtain ⟨hz, q⟩ := q
    cases (show R1 K F H u (.tuple xs) from ra) with
    | tup h1 r1 =>
      cases (show R1 K F H w (.tuple ys) from rb) with
      | tup h2 r2 =>
        refine .inr (.inr (.inl ⟨_, _, _, _, rfl, rfl, h1.t, h2.t, by rw [RA.len r1, RA.len r2]; exact hz, fun e => ?_, fun _ e => ?_, fun _ _ p o nd hp => ?_⟩))
        · subst e
          have : xs = [] := List.eq_nil_of_length_eq_zero (RA.len r1).symm
          subst this
          exact k _ _ F H q (fun _ _ z => nomatch z) (.same fo (.tup h2 r2))
        · subst e
          have : ys = [] := List.eq_nil_of_length_eq_zero (RA.len r2).symm
          subst this
          refine k _ _ F H q (fun _ _ z => nomatch z) (.same fo (.tup h1 ?_))
          rw [List.append_nil]; exact r1
        · exact k _ _ _ _ q (fun _ _ z => nomatch z) (.newT fo nd hp (RA.append r1 r2))
  · rw [int_of rb]
    cases (show R1 K F H u (.bool _) from ra)
    exact .inr (.inr (.inr (.inr ⟨_, _, rfl, rfl, k _ _ F H q (fun _ _ z => nomatch z) (.same fo (.int _))⟩)))
  · exact lists q
/-- a == b, a != b -/
def eqD (d e : PyData) (P : Bool → Prop) : Prop := match d, e with
  | .int i, .int j => P (i == j)
  | .str x, .str y => P (x == y)
  | .bool x, .bool y => P (x == y)
  | d, e => SeqAt.shaped d = true ∧ SeqAt.shaped e = true ∧ P (PyData.eqv d e)
theorem eqD_nd {d e : PyData} {P : Bool → Prop} (h : eqD d e P) : d.hasDict = false ∧ e.hasDict = false := by
  unfold eqD at h
  split at h
  · exact ⟨rfl, rfl⟩
  · exact ⟨rfl, rfl⟩
  · exact ⟨rfl, rfl⟩
  · exact ⟨PyData.hasDict_of_canLay _ (SeqAt.canLay_of_shaped h.1), PyData.hasDict_of_canLay _ (SeqAt.canLay_of_shaped h.2.1)⟩
def fEq (neg : Bool) : FB := fun a b Q => ∃ d e, a.asD = some d ∧ b.asD = some e ∧ eqD d e fun c => Q (.v (.bool (if neg then !c else c)))
theorem dp_int {i : Int} (h : Dp K H u (.int i)) : u = .int i := by cases h; rfl
theorem dp_str {x : Str} (h : Dp K H u (.str x)) : u = .str x := by cases h; rfl
theorem dp_bl {b : Bool} (h : Dp K H u (.bool b)) : u = .bl b := by cases h; rfl
theorem ops_eq : OpS K (r2or rEq (rEqD K)) (fEq false) := by
  intro F H u w a b Q R fo ra rb ⟨d, e, e1, e2, q⟩ k
  have d1 := asD_dp ra e1 (eqD_nd q).1
  have d2 := asD_dp rb e2 (eqD_nd q).2
  unfold eqD at q
  split at q
  · rw [dp_int d1, dp_int d2]
    refine .inl ⟨rfl, ?_⟩
    rw [dec_int]
    exact k _ _ F H q (fun _ _ z => nomatch z) (.same fo (.bl _))
  · rw [dp_str d1, dp_str d2]
    refine .inl ⟨rfl, ?_⟩
    rw [dec_str]
    exact k _ _ F H q (fun _ _ z => nomatch z) (.same fo (.bl _))
  · rw [dp_bl d1, dp_bl d2]
    refine .inl ⟨rfl, ?_⟩
    rw [dec_bl]
    exact k _ _ F H q (fun _ _ z => nomatch z) (.same fo (.bl _))
  · exact .inr ⟨_, _, d1, d2, q.1, q.2.1, k _ _ F H q.2.2 (fun _ _ z => nomatch z) (.same fo (.bl _))⟩
theorem ops_ne : OpS K (r2or rNe (rNeD K)) (fEq true) := by
  intro F H u w a b Q R fo ra rb ⟨d, e, e1, e2, q⟩ k
  have d1 := asD_dp ra e1 (eqD_nd q).1
  have d2 := asD_dp rb e2 (eqD_nd q).2
  unfold eqD at q
  split at q
  · rw [dp_int d1, dp_int d2]
    refine .inl ⟨rfl, ?_⟩
    rw [dec_int]
    exact k _ _ F H q (fun _ _ z => nomatch z) (.same fo (.bl _))
  · rw [dp_str d1, dp_str d2]
    refine .inl ⟨rfl, ?_⟩
    rw [dec_str]
    exact k _ _ F H q (fun _ _ z => nomatch z) (.same fo (.bl _))
  · rw [dp_bl d1, dp_bl d2]
    refine .inl ⟨rfl, ?_⟩
    rw [dec_bl]
    exact k _ _ F H q (fun _ _ z => nomatch z) (.same fo (.bl _))
  · exact .inr ⟨_, _, d1, d2, q.1, q.2.1, k _ _ F H q.2.2 (fun _ _ z => nomatch z) (.same fo (.bl _))⟩
theorem op_eqAll {X : Cx} (hu : X.A.units + 64 < cLine) : OpR X (compareOp .Eq) (r2or rEq (rEqD X.K)) := op_eq.or (op_eqD hu)
theorem op_neAll {X : Cx} (hu : X.A.units + 64 < cLine) : OpR X (compareOp .NotEq) (r2or rNe (rNeD X.K)) := op_ne.or (op_neD hu)
/-- a is None, a is not None -/
def isNoneD : PyData → Bool
  | .none => true
  | _ => false
def fIsN (neg : Bool) : FB := fun a b Q => ∃ d, a.asD = some d ∧ b = .v .none ∧ Q (.v (.bool (if neg then !isNoneD d else isNoneD d)))
theorem dp_non {d : PyData} (h : Sh K H u d) : decide (u = .non) = isNoneD d := by
  cases h <;> rfl
theorem non_of (h : SlotR K F H u (.v .none)) : u = .non := by
  cases (show R1 K F H u .none from h) with
  | non => rfl
theorem ops_isN : OpS K (fun x y H Q => y = .non ∧ Q (.bl (decide (x = .non))) H) (fIsN false) := by
  intro F H u w a b Q R fo ra rb ⟨d, e1, e2, q⟩ k
  subst e2
  refine ⟨non_of rb, ?_⟩
  rw [dp_non (asD_sh ra e1)]
  exact k _ _ F H q (fun _ _ z => nomatch z) (.same fo (.bl _))
theorem ops_notN : OpS K (fun x y H Q => y = .non ∧ Q (.bl (!decide (x = .non))) H) (fIsN true) := by
  intro F H u w a b Q R fo ra rb ⟨d, e1, e2, q⟩ k
  subst e2
  refine ⟨non_of rb, ?_⟩
  rw [dp_non (asD_sh ra e1)]
  exact k _ _ F H q (fun _ _ z => nomatch z) (.same fo (.bl _))
/-- a[i] -/
def fIx : FB := fun a b Q => ∃ i, b = .v (.int i) ∧ ((∃ ds d, a.asQ = some ds ∧ atI ds i = some d ∧ Q (.v d)) ∨ ∃ z c, a = .v (.str z) ∧ z.length ≤ sizeLine ∧ atI z.cps.toList i = some c ∧ Q (.v (.str ⟨#[c]⟩)))
theorem RA.atI {us : List V} (h : RA K F H us ds) {i : Int} {d : PyData} (e : L2.atI ds i = some d) : ∃ v, L2.atI us i = some v ∧ R1 K F H v d := by
  unfold L2.atI at *
  rw [h.len]
  rcases e1 : ixN ds.length i with _ | j
  · rw [e1] at e; cases e
  · rw [e1] at e
    exact h.get e
theorem ops_ix : OpS K (rIx K) fIx := by
  intro F H u w a b Q R fo ra rb ⟨i, e, q⟩ k
  subst e
  rw [int_of rb]
  rcases q with ⟨ds, d, e1, e2, q⟩ | ⟨z, c, e1, hz, e2, q⟩
  · obtain ⟨p, xs, rfl, sq, r⟩ := asQ_sq ra e1
    obtain ⟨v, h1, h2⟩ := r.atI e2
    rcases sq with sq | sq
    · exact .inl ⟨p, xs, i, v, rfl, rfl, sq, h1, k _ _ F H q (fun _ _ z => nomatch z) (.same fo h2)⟩
    · exact .inr (.inl ⟨p, xs, i, v, rfl, rfl, sq.t, h1, k _ _ F H q (fun _ _ z => nomatch z) (.same fo h2)⟩)
  · subst e1
    rw [str_of ra]
    exact .inr (.inr ⟨z, i, c, rfl, rfl, hz, e2, k _ _ F H q (fun _ _ z => nomatch z) (.same fo (.str _))⟩)
end
end VL
namespace VL
open PySem PySem.Spec PyProof.Rows L2 VG

section
variable {K : PySem.W.Frag} {F : FS} {H : Hp} {s : SV} {u : V} {ds : List PyData}
theorem ah1 {us : List V} (h : AllH K F H us [s]) : ∃ u, us = [u] ∧ SlotR K F H u s := by
  match us, h with
  | [u], ⟨a, _⟩ => exact ⟨u, rfl, a⟩
theorem ah2 {us : List V} {t : SV} (h : AllH K F H us [s, t]) : ∃ u w, us = [u, w] ∧ SlotR K F H u s ∧ SlotR K F H w t := by
  match us, h with
  | [u, w], ⟨a, b, _⟩ => exact ⟨u, w, rfl, a, b⟩
abbrev FC := List SV → (SV → Prop) → Prop
/-! ### repr -/
/-- it can be shown -/
def Shw (d : PyData) : Prop := d.showable = true ∧ d.hasDict = false ∧ d.depth ≤ 64 ∧ d.shown.length ≤ sizeLine
def rRepr (K : PySem.W.Frag) : List V → Hp → VK → Prop := fun xs H Q => ∃ x d, xs = [x] ∧ Dp K H x d ∧ Shw d ∧ Q (.str d.shown) H
theorem call_repr {X : Cx} {k : Nat} (hr : Room k X.A) (gd : Still X.A) : CallR X (.builtin "repr") (rRepr X.K) := by
  intro pins s σ H xs us Q I r h
  obtain ⟨x, d, rfl, hd, ⟨h1, h2, h3, h4⟩, q⟩ := h
  obtain ⟨v, rfl, rv⟩ := vals1 r
  obtain ⟨as, rd⟩ := Dp.reads I d x v hd rv
  have end_ : ∀ (z : Str) (t : Nat), z = d.shown → EP X pins σ Q (.str z t) { s with toks := s.toks + 1 } := fun z t e => ⟨.str z, H, I.tok _, ⟨_, rfl⟩, by rw [e]; exact q⟩
  cases hd with
  | non => cases rv; exact PySem.P.repr_of_none (end_ _ _ rfl)
  | bl b => cases rv; exact PySem.P.repr_of_bool (end_ _ _ rfl)
  | int i =>
    obtain ⟨t, rfl⟩ := rv
    exact PySem.P.repr_of_int (by simpa [PyData.showable] using h1) (end_ _ _ rfl)
  | str x =>
    obtain ⟨t, rfl⟩ := rv
    exact PySem.P.repr_of_str (end_ _ _ rfl) (by simpa [PyData.shown] using h4)
  | lst a b =>
    cases rv
    exact repr_of_reads' rd h1 (PyData.noDict_hsm h2) gd (by have := hr.un; omega) (fun _ _ e => e) (fun h' u tk hk => ⟨.str _, H, I.kept hk, ⟨_, rfl⟩, q⟩) h4
  | tup a b =>
    cases rv
    exact repr_of_reads' rd h1 (PyData.noDict_hsm h2) gd (by have := hr.un; omega) (fun _ _ e => e) (fun h' u tk hk => ⟨.str _, H, I.kept hk, ⟨_, rfl⟩, q⟩) h4
def fRepr : FC := fun ss Q => ∃ s d, ss = [s] ∧ s.asD = some d ∧ Shw d ∧ Q (.v (.str d.shown))
theorem cs_repr : CallS K (rRepr K) fRepr := by
  intro F H us ss Q R fo al ⟨s, d, e, e1, hs, q⟩ k
  subst e
  obtain ⟨u, rfl, h⟩ := ah1 al
  exact ⟨u, d, rfl, asD_dp h e1 hs.2.1, hs, k _ _ F H q (fun _ _ z => nomatch z) (.same fo (.str _))⟩
/-! ### len, list, tuple -/
def fLen : FC := fun ss Q => (∃ s ds, ss = [s] ∧ s.asQ = some ds ∧ Q (.v (.int ds.length))) ∨ ∃ z : Str, ss = [.v (.str z)] ∧ z.length ≤ sizeLine ∧ Q (.v (.int z.length))
abbrev rLen (K : PySem.W.Frag) : List V → Hp → VK → Prop := fun xs H Q => (∃ p ys, xs = [.ref p] ∧ (SqL K H p ys ∨ SqT K H p ys) ∧ Q (.int ys.length) H) ∨ ∃ z, xs = [.str z] ∧ z.length ≤ sizeLine ∧ Q (.int z.length) H
theorem call_lenA {X : Cx} : CallR X (.builtin "len") (rLen X.K) := call_len_seq.or call_len_str
theorem cs_len : CallS K (rLen K) fLen := by
  intro F H us ss Q R fo al q k
  rcases q with ⟨s, ds, e, e1, q⟩ | ⟨z, e, hz, q⟩
  · subst e
    obtain ⟨u, rfl, h⟩ := ah1 al
    obtain ⟨a, xs, rfl, sq, r⟩ := asQ_sq h e1
    refine .inl ⟨a, xs, rfl, sq.imp id SqN.t, ?_⟩
    rw [r.len]
    exact k _ _ F H q (fun _ _ z => nomatch z) (.same fo (.int _))
  · subst e
    obtain ⟨u, rfl, h⟩ := ah1 al
    rw [str_of h]
    exact .inr ⟨z, rfl, hz, k _ _ F H q (fun _ _ z => nomatch z) (.same fo (.int _))⟩
def fList : FC := fun ss Q => ∃ s ds, ss = [s] ∧ s.asQ = some ds ∧ Q (.own ds)
abbrev rListOf (K : PySem.W.Frag) : List V → Hp → VK → Prop := fun xs H Q => ∃ p ys, xs = [.ref p] ∧ (SqL K H p ys ∨ SqT K H p ys) ∧ ∀ l, H l = none → Q (.ref l) (upd H l (.lst ys))
theorem cs_list : CallS K (rListOf K) fList := by
  intro F H us ss Q R fo al ⟨s, ds, e, e1, q⟩ k
  subst e
  obtain ⟨u, rfl, h⟩ := ah1 al
  obtain ⟨a, xs, rfl, sq, r⟩ := asQ_sq h e1
  exact ⟨a, xs, rfl, sq.imp id SqN.t, fun l hl => k _ _ _ _ q (fun _ _ z => nomatch z) (.newL fo hl r)⟩
def fTuple : FC := fun ss Q => ∃ s ds, ss = [s] ∧ s.asQ = some ds ∧ Q (.v (.tuple ds))
abbrev rTupleOf (K : PySem.W.Frag) : List V → Hp → VK → Prop := rTupOfN K
theorem cs_tuple : CallS K (rTupleOf K) fTuple := by
  intro F H us ss Q R fo al ⟨s, ds, e, e1, q⟩ k
  subst e
  obtain ⟨u, rfl, h⟩ := ah1 al
  obtain ⟨a, xs, rfl, sq, r⟩ := asQ_sq h e1
  refine ⟨a, xs, rfl, sq.imp (fun sq => ⟨sq, fun l o nd hl => k _ _ _ _ q (fun _ _ z => nomatch z) (.newT fo nd hl r)⟩) fun sq => ⟨sq.t, k _ _ F H q (fun _ _ z => nomatch z) (.same fo (.tup sq r))⟩⟩
/-! ### ints -/
def fI1 (g : Int → Int) : FC := fun ss Q => ∃ i, ss = [.v (.int i)] ∧ Q (.v (.int (g i)))
def fI2 (g : Int → Int → Int) : FC := fun ss Q => ∃ i j, ss = [.v (.int i), .v (.int j)] ∧ Q (.v (.int (g i j)))
theorem cs_i1 {g : Int → Int} : CallS K (fun xs H Q => ∃ i, xs = [.int i] ∧ Q (.int (g i)) H) (fI1 g) := by
  intro F H us ss Q R fo al ⟨i, e, q⟩ k
  subst e
  obtain ⟨u, rfl, h⟩ := ah1 al
  rw [int_of h]
  exact ⟨i, rfl, k _ _ F H q (fun _ _ z => nomatch z) (.same fo (.int _))⟩
theorem cs_i2 {g : Int → Int → Int} : CallS K (fun xs H Q => ∃ i j, xs = [.int i, .int j] ∧ Q (.int (g i j)) H) (fI2 g) := by
  intro F H us ss Q R fo al ⟨i, j, e, q⟩ k
  subst e
  obtain ⟨u, w, rfl, h1, h2⟩ := ah2 al
  rw [int_of h1, int_of h2]
  exact ⟨i, j, rfl, k _ _ F H q (fun _ _ z => nomatch z) (.same fo (.int _))⟩
theorem data_ints : ∀ {us : List V} {ns : List Int}, RA K F H us (ns.map PyData.int) → us = ns.map V.int
  | [], [], _ => rfl
  | _ :: _, [], h => by cases h
  | [], _ :: _, h => by cases h
  | u :: us, n :: ns, h => by
    cases h with
    | cons a b =>
      cases a with
      | int i => rw [data_ints b]; rfl
def fSum : FC := fun ss Q => ∃ (s : SV) (ns : List Int), ss = [s] ∧ s.asL = some (ns.map PyData.int) ∧ Q (.v (.int ns.sum))
theorem cs_sum : CallS K (rSum K) fSum := by
  intro F H us ss Q R fo al ⟨s, ns, e, e1, q⟩ k
  subst e
  obtain ⟨u, rfl, h⟩ := ah1 al
  obtain ⟨a, xs, rfl, sq, r⟩ := asL_sq h e1
  rw [data_ints r] at sq
  exact ⟨a, ns, rfl, sq, k _ _ F H q (fun _ _ z => nomatch z) (.same fo (.int _))⟩
end

/-! ### slices -/
def cutD (xs : List PyData) (lo hi : Option Int) : List PyData := (xs.drop (HT.sIx xs.length 0 lo)).take (HT.sIx xs.length xs.length hi - HT.sIx xs.length 0 lo)
section
variable {X : Cx} {K : PySem.W.Frag} {F : FS} {H : Hp} {s : SV} {u : V} {ds : List PyData}
theorem RA.cut {us : List V} (h : RA K F H us ds) (lo hi : Option Int) : RA K F H (cutV us lo hi) (cutD ds lo hi) := by
  unfold cutV cutD
  rw [h.len]
  exact (h.drop _).take _
abbrev TVo := Env → (Option Int → Prop) → Prop
def VO (X : Cx) (e : Option Expr) (t : TVo) (κ : Nat) : Prop := ∃ te, PO X e te ∧
  ∀ B F H σ ρ (Q : Option Int → Prop) (R : Option Int → Hp → Prop), ER X.K B F H σ ρ → F.ck + κ ≤ LIM → t ρ Q → (∀ o (F' : FS) H', F'.ck ≤ F.ck + κ → Q o → Ext ρ F H F' H' → R o H') → te σ H R
theorem vo_none : VO X none (fun _ Q => Q none) 0 := ⟨_, po_none, fun B F H σ ρ Q R er bq t k => k none F H (by omega) t er.refl⟩
theorem vo_some {κ1 : Nat} {e : Expr} {t : TV} (h : VE X e t κ1) : VO X (some e) (fun ρ Q => t ρ fun s => isI s fun i => Q (some i)) κ1 := by
  obtain ⟨te, pe, g⟩ := h
  refine ⟨_, po_some pe, fun B F H σ ρ Q R er bq t k => ?_⟩
  refine g B F H σ ρ _ _ er (by omega) t fun s u F' H' cq ⟨i, e, q⟩ x => ?_
  subst e
  exact ⟨i, int_of x.sr, k _ F' H' (by omega) q x.toExt⟩
abbrev rSlAll (K : PySem.W.Frag) : V → Option Int → Option Int → Hp → VK → Prop := fun x lo hi H Q => rSlL K x lo hi H Q ∨ rSlN K x lo hi H Q ∨ rSlS x lo hi H Q
theorem sl_all : SlR X (rSlAll X.K) := sl_list.or (sl_tupN.or sl_str)
def vSl (t : TV) (tl th : TVo) : TV := fun ρ Q => t ρ fun s => tl ρ fun lo => th ρ fun hi =>
  (∃ ds, s.asL = some ds ∧ Q (.own (cutD ds lo hi))) ∨ (∃ ds, s.asT = some ds ∧ Q (.v (.tuple (cutD ds lo hi)))) ∨ ∃ z : Str, s = .v (.str z) ∧ z.length ≤ sizeLine ∧ Q (.v (.str (cutS z lo hi)))
theorem cut_whole {xs : List PyData} {lo hi : Option Int} (h1 : HT.sIx xs.length 0 lo = 0) (h2 : HT.sIx xs.length xs.length hi = xs.length) : cutD xs lo hi = xs := by
  unfold cutD
  rw [h1, h2]
  simp
theorem ve_sl {κ1 κ2 κ3 : Nat} {e : Expr} {lo hi : Option Expr} {t : TV} {tl th : TVo} {p2 pos : Pos} (h : VE X e t κ1) (hl : VO X lo tl κ2) (hh : VO X hi th κ3) : VE X (.Subscript e (.Slice lo hi none p2) pos) (vSl t tl th) (κ1 + κ2 + κ3) := by
  obtain ⟨te, pe, g⟩ := h
  obtain ⟨tle, pl, gl⟩ := hl
  obtain ⟨the, ph, gh⟩ := hh
  refine ⟨_, pe_slice sl_all pe pl ph, fun B F H σ ρ Q R er bq t k => ?_⟩
  refine g B F H σ ρ _ _ er (by omega) t fun s u F1 H1 cq q1 x1 => ?_
  have er1 := er.step x1.toExt
  refine gl B F1 H1 σ ρ _ _ er1 (by omega) q1 fun lo' F2 H2 cq q2 x2 => ?_
  refine gh B F2 H2 σ ρ _ _ (er1.step x2) (by omega) q2 fun hi' F3 H3 cq q3 x3 => ?_
  have sr := x1.sr.keep x1.fo er.refl.cp (x2.trans x3)
  have x := x1.toExt.trans (x2.trans x3)
  rcases q3 with ⟨ds, e1, q⟩ | ⟨ds, e1, q⟩ | ⟨z, e1, hz, q⟩
  · obtain ⟨a, xs, rfl, sq, r⟩ := asL_sq sr e1
    exact .inl ⟨a, xs, rfl, sq, fun p hp => k _ _ _ _ (by omega) q ((PRes.newL x.dm hp (r.cut _ _)).res x fun _ _ z => nomatch z)⟩
  · obtain ⟨a, xs, rfl, sq, r⟩ := asT_sq sr e1
    refine .inr (.inl ⟨a, xs, rfl, sq.t, fun ⟨w1, w2⟩ => ?_, fun _ p o nd hp => k _ _ _ _ (by omega) q ((PRes.newT x.dm nd hp (r.cut _ _)).res x fun _ _ z => nomatch z)⟩)
    rw [r.len] at w1 w2
    rw [cut_whole w1 w2] at q
    exact k _ _ F3 H3 (by omega) q ((PRes.same x.dm (.tup sq r)).res x fun _ _ z => nomatch z)
  · subst e1
    rw [str_of sr]
    exact .inr (.inr ⟨z, rfl, hz, k _ _ F3 H3 (by omega) q ((PRes.same x.dm (.str _)).res x fun _ _ z => nomatch z)⟩)
end

/-! ### lists of one's own -/
section
variable {X : Cx} {st : Stmt} {e : Expr} {t : TV} {i : Nat}
def vAppend (i : Nat) (t : TV) : TVS := fun E ρ => ∃ ds, ρ[i]? = some (.own ds) ∧ t ρ fun s => ∃ d, datasIn [s] = some [d] ∧ ds.length < 100000 ∧ E.nx (ρ.set i (.own (ds ++ [d])))
theorem vs_append {κ1 : Nat} (h : ∀ te, PE X e te → PS X st (tDrop (tBM X.K "list" rAppend (tVar i) (tCons te tNil)))) (he : VE X e t κ1) : VS X st (vAppend i t) κ1 := by
  obtain ⟨te, pe, g⟩ := he
  refine ⟨_, h te pe, fun B F H σ ρ E D er bq ⟨ds, e2, t⟩ k => ?_⟩
  obtain ⟨p, us, h1, h2, _, _⟩ := er.own e2
  refine ⟨.ref p, h1, .inl ⟨rfl, us, SqL.of h2⟩, ?_⟩
  refine g B F H σ ρ _ _ er (by omega) t fun s u F1 H1 cq ⟨d, e1, hz, q⟩ x => ?_
  obtain ⟨F2, ce, x2, r⟩ := data_all (us := [u]) (ss := [s]) x.toExt ⟨x.sr, x.fo, trivial⟩ e1
  have er2 := er.step x2
  obtain ⟨p', ws, h1', h2', nf, ra⟩ := er2.own e2
  rw [h1] at h1'
  injection h1' with h1'; injection h1' with h1'; injection h1' with h1'
  subst h1'
  refine ⟨p, ws, u, rfl, rfl, h2', ?_, k.nx F2 _ _ _ (by omega) (er2.write (c1 := .lst) e2 h1 h2' nf (ra.append r)) q⟩
  rw [ra.len]
  exact Nat.lt_of_lt_of_le hz (by decide)
/-- xs.extend(ys) -/
def vExtend (i : Nat) (t : TV) : TVS := fun E ρ => ∃ ds, ρ[i]? = some (.own ds) ∧ t ρ fun s => ∃ es, s.asW = some es ∧ ds.length + es.length ≤ 100000 ∧ E.nx (ρ.set i (.own (ds ++ es)))
theorem vs_extend {κ1 : Nat} (h : ∀ te, PE X e te → PS X st (tDrop (tBM X.K "list" rExtend (tVar i) (tCons te tNil)))) (he : VE X e t κ1) : VS X st (vExtend i t) κ1 := by
  obtain ⟨te, pe, g⟩ := he
  refine ⟨_, h te pe, fun B F H σ ρ E D er bq ⟨ds, e2, t⟩ k => ?_⟩
  obtain ⟨p, us, h1, h2, _, _⟩ := er.own e2
  refine ⟨.ref p, h1, .inl ⟨rfl, us, SqL.of h2⟩, ?_⟩
  refine g B F H σ ρ _ _ er (by omega) t fun s u F1 H1 cq ⟨es, e1, hz, q⟩ x => ?_
  have er2 := er.step x.toExt
  obtain ⟨p', ws, h1', h2', nf, ra⟩ := er2.own e2
  rw [h1] at h1'
  injection h1' with h1'; injection h1' with h1'; injection h1' with h1'
  subst h1'
  obtain ⟨b, zs, rfl, h3, r⟩ := asW_at x.sr e1
  refine ⟨p, b, ws, zs, rfl, rfl, h2', h3, ?_, k.nx F1 _ _ _ (by omega) (er2.write (c1 := .lst) e2 h1 h2' nf (ra.append r)) q⟩
  rw [ra.len, r.len]
  exact Nat.le_trans hz (by decide)
end

/-! ### the feed -/
section
variable {X : Cx} {st : Stmt} {e : Expr} {t : TV} {i : Nat}
def kCells : Str := "cells"
def kAt : Str := "at"
def kLeft : Str := "left"
def kCount : Str := "count"
theorem ER.cellAt {K : PySem.W.Frag} {B : Bas} {F : FS} {H : Hp} {σ : Hs} {ρ : Env} (er : ER K B F H σ ρ) {a : Addr} {ns : Cel} (h : ρ[i]? = some (.cell a ns)) : σ[i]? = some (some (.ref a)) ∧ CI F H a ns := by
  obtain ⟨u, h1, rfl, c⟩ := er.sl i _ h (fun z => nomatch z)
  exact ⟨h1, c⟩
/-- feed['cells'] -/
def vCells (i : Nat) : TV := fun ρ Q => ∃ (a : Addr) (ns : List Int), ρ[i]? = some (.cell a ⟨false, ns⟩) ∧ Q (.v (.list (ns.map .int)))
theorem ve_cells (h : PE X e (tDGet (tVar i) (tC (.str "cells")))) : VE X e (vCells i) 0 := by
  refine ⟨_, h, fun B F H σ ρ Q R er bq ⟨a, ns, e, q⟩ k => ?_⟩
  obtain ⟨h1, c⟩ := er.cellAt e
  obtain ⟨nf, c', j, l, n, e1, e2, e3, _⟩ := id c
  refine ⟨.ref a, h1, a, .ref c', rfl, ?_, k _ _ F H (by omega) q ⟨er.refl, .lst e2 e3 (RA.ints ns), trivial⟩⟩
  exact DGet.k (k := Sum.inr "cells") e1
/-- feed['at'], .. : some int -/
def vCellN (i : Nat) : TV := fun ρ Q => ∃ (a : Addr) (ns : List Int), ρ[i]? = some (.cell a ⟨false, ns⟩) ∧ ∀ n : Int, Q (.v (.int n))
theorem ve_cellN {key : Str} (h : PE X e (tDGet (tVar i) (tC (.str key)))) (hk : key = "at" ∨ key = "left" ∨ key = "count") : VE X e (vCellN i) 0 := by
  refine ⟨_, h, fun B F H σ ρ Q R er bq ⟨a, ns, e, q⟩ k => ?_⟩
  obtain ⟨h1, c⟩ := er.cellAt e
  obtain ⟨nf, c', j, l, n, e1, e2, e3, _⟩ := id c
  have fin : ∀ m : Int, DGet H a (.str key) (some (.int m)) → tDGet (tVar i) (tC (.str key)) σ H R := fun m g =>
    ⟨.ref a, h1, a, .int m, rfl, g, k _ _ F H (by omega) (q m) ⟨er.refl, .int m, trivial⟩⟩
  rcases hk with rfl | rfl | rfl
  · exact fin j (DGet.k (k := Sum.inr "at") e1)
  · exact fin l (DGet.k (k := Sum.inr "left") e1)
  · exact fin n (DGet.k (k := Sum.inr "count") e1)
/-- feed['at'] = e -/
def vCellSet (i : Nat) (t : TV) : TVS := fun E ρ => ∃ (a : Addr) (ns : List Int), ρ[i]? = some (.cell a ⟨false, ns⟩) ∧ t ρ fun s => isI s fun _ => E.nx ρ
theorem celO_ne {t : Bool} {c : Addr} {i l n : Int} : (∀ xs, celO t c i l n ≠ .tup xs) ∧ ∀ o u, celO t c i l n ≠ .frz o u := by
  cases t <;> exact ⟨(fun _ z => nomatch z), (fun _ _ z => nomatch z)⟩
theorem Ext.cellw {K : PySem.W.Frag} {B : Bas} {F : FS} {H : Hp} {σ : Hs} {ρ : Env} {a c : Addr} {ns : Cel} (er : ER K B F H σ ρ) (h : ρ[i]? = some (.cell a ns)) {j l n : Int} (e2 : F c) (e3 : H c = some (.lst (ns.ns.map V.int))) (m : Nat) (hb : ns.tap = true → 0 ≤ n ∧ n ≤ (F.ck + m : Nat)) :
    Ext ρ F H ⟨F.fr, F.ck + m⟩ (upd H a (celO ns.tap c j l n)) := by
  obtain ⟨_, nf, c', j', l', n', e1, _, _⟩ := er.cellAt h
  have ne : ∀ {b : Addr} {o : HO}, H b = some o → ((∃ xs, o = .tup xs) ∨ ∃ x u, o = .frz x u) → b ≠ a := fun {b o} q z w => by
    rw [w, e1] at q
    have q := Option.some.inj q
    rcases z with ⟨xs, z⟩ | ⟨x, u, z⟩
    · exact celO_ne.1 xs (q.trans z)
    · exact celO_ne.2 x u (q.trans z)
  have keep : ∀ {b : Addr} {o : HO}, H b = some o → b ≠ a → upd H a (celO ns.tap c j l n) b = some o := fun {b o} q w => by rw [upd_ne w]; exact q
  have nf2 : ∀ {b : Addr}, F b → b ≠ a := fun {b} f z => nf (by rw [← z]; exact f)
  refine ⟨⟨⟨fun _ f => f, fun b o f q => keep q (nf2 f), fun b xs q => keep q (ne q (.inl ⟨_, rfl⟩)), fun b o u q => keep q (ne q (.inr ⟨_, _, rfl⟩))⟩, fun b o q m => keep q (fun z => m ⟨i, ns, by rw [z]; exact h⟩), fun b q => ?_, fun _ f => .inl f, Nat.le_add_right _ _⟩,
    fun b f => ?_, fun k b ms q => ?_, er.refl.cp⟩
  · by_cases z : b = a
    · rw [z, upd_same]; exact fun z => nomatch z
    · rw [upd_ne z]; exact q
  · obtain ⟨xs, q, l⟩ := er.dm b f
    exact ⟨xs, keep q (nf2 f), l⟩
  · by_cases z : b = a
    · subst z
      have e := (er.cell q).uniq (er.cell h)
      subst e
      exact ⟨nf, c, j, l, n, upd_same, e2, keep e3 (nf2 e2), hb⟩
    · obtain ⟨nf', c2, j2, l2, n2, q1, q2, q3, q4⟩ := er.cell q
      exact ⟨nf', c2, j2, l2, n2, keep q1 z, q2, keep q3 (nf2 q2), fun w => ⟨(q4 w).1, Int.le_trans (q4 w).2 (Int.ofNat_le.mpr (Nat.le_add_right _ _))⟩⟩
theorem vs_cellSet {κ1 : Nat} {key : Str} (h : ∀ te, PE X e te → PS X st (sDPut (tVar i) (tC (.str key)) te)) (he : VE X e t κ1) (hk : key = "at" ∨ key = "left" ∨ key = "count") : VS X st (vCellSet i t) κ1 := by
  obtain ⟨te, pe, g⟩ := he
  refine ⟨_, h te pe, fun B F H σ ρ E D er bq ⟨a, ns, e, t⟩ k => ?_⟩
  refine g B F H σ ρ _ _ er (by omega) t fun s u F1 H1 cq ⟨m, e1, q⟩ x => ?_
  subst e1
  have er1 := er.step x.toExt
  rw [int_of x.sr]
  obtain ⟨h1, c⟩ := er1.cellAt e
  obtain ⟨nf, c', j, l, n, e1, e2, e3, _⟩ := id c
  have fin : ∀ j' l' n' : Int, DPut H1 a (.str key) (.int m) (upd H1 a (celO false c' j' l' n')) →
      tVar i σ H1 (fun x H2 => tC (.str key) σ H2 fun y H3 => ∃ a H4, x = .ref a ∧ DPut H3 a y (.int m) H4 ∧ D.nx σ H4) := fun j' l' n' d =>
    ⟨.ref a, h1, a, _, rfl, d, k.nx F1 _ σ ρ (by omega) (er1.step (Ext.cellw er1 e e2 e3 0 (fun z => nomatch z))) q⟩
  have hz : ([(Sum.inr "cells", V.ref c'), (Sum.inr "at", V.int j), (Sum.inr "left", V.int l), (Sum.inr "count", V.int n)] : List (Key × V)).length < sizeLine := Nat.lt_of_lt_of_le (by decide : 4 < 100000) (by decide)
  rcases hk with rfl | rfl | rfl
  · exact fin m l n (DPut.k (k := Sum.inr "at") e1 hz)
  · exact fin j m n (DPut.k (k := Sum.inr "left") e1 hz)
  · exact fin j l m (DPut.k (k := Sum.inr "count") e1 hz)
/-- {'cells': e, 'at': 0, 'left': 0, 'count': 0} -/
def vFeed (t : TV) : TV := fun ρ Q => t ρ fun s => ∃ ns : List Int, s = .own (ns.map .int) ∧ ∀ a, Q (.cell a ⟨false, ns⟩)
theorem ve_feed {κ1 : Nat} {f : Expr} (h : ∀ te, PE X e te → PE X f (tDisp [(tC (.str "cells"), te), (tC (.str "at"), tC (.int 0)), (tC (.str "left"), tC (.int 0)), (tC (.str "count"), tC (.int 0))])) (he : VE X e t κ1) : VE X f (vFeed t) κ1 := by
  obtain ⟨te, pe, g⟩ := he
  refine ⟨_, h te pe, fun B F H σ ρ Q R er bq t k p hp => ?_⟩
  have x0 : Ext ρ F H F (upd H p (.dK [])) := er.refl.pure (Stp.new hp) (er.dm.new hp)
  refine g B F _ σ ρ _ _ (er.step x0) (by omega) t fun s u F1 H1 cq ⟨ns, e1, q⟩ x => ?_
  subst e1
  obtain ⟨F2, ce, x2, _⟩ := x.hand (t := .v (.list (ns.map .int))) rfl
  have np : ¬ cellsOf ρ p := fun c => er.refl.cp p c hp
  have hp1 : H1 p = some (.dK []) := x.st.kp p _ upd_same np
  have nf2 : ¬ F2 p := fun z => by
    rcases x2.st.nw p z with w | w
    · obtain ⟨o, w, _⟩ := er.dm p w
      rw [hp] at w; cases w
    · rw [upd_same] at w; cases w
  have r2 : R1 X.K F2 H1 u (.list (ns.map .int)) := x2.sr
  cases r2 with
  | lst f hu r =>
    rename_i c xs
    have exs : xs = ns.map V.int := data_ints r
    subst exs
    have np2 : c ≠ p := fun z => nf2 (by rw [← z]; exact f)
    refine ⟨hp1, [(.inr "cells", .ref c), (.inr "at", .int 0), (.inr "left", .int 0), (.inr "count", .int 0)], rfl, (by show 4 ≤ 15; decide), ?_⟩
    have x3 := x0.trans x2.toExt
    have hk : ∀ {b : Addr} {o : HO} {o2 : HO}, H1 b = some o → (∀ kvs, o ≠ .dK kvs) → upd H1 p o2 b = some o := fun {b o o2} q z => by
      rw [upd_ne (fun w => by rw [w, hp1] at q; exact z _ (Option.some.inj q).symm)]; exact q
    refine k _ _ F2 _ (by omega) (q p) ⟨⟨x3.st.mut hp, fun a z => ?_, fun j b ms z => ?_, x3.cp⟩, ⟨rfl, nf2, c, 0, 0, 0, upd_same, f, ?_, fun z => nomatch z⟩, .inr hp⟩
    · obtain ⟨xs, w, l⟩ := x3.dm a z
      exact ⟨xs, by rw [upd_ne (fun q => nf2 (by rw [← q]; exact z))]; exact w, l⟩
    · obtain ⟨nf', c2, j2, l2, n2, q1, q2, q3, q4⟩ := x3.cl j b ms z
      have nb : b ≠ p := fun w => np ⟨j, ms, by rw [← w]; exact z⟩
      exact ⟨nf', c2, j2, l2, n2, by rw [upd_ne nb]; exact q1, q2, hk q3 (fun _ z => nomatch z), q4⟩
    · exact hk hu fun _ z => nomatch z
end
end VL
namespace VL
open PySem PySem.Spec PyProof.Rows L2 VG

theorem hu64 {k : Nat} {A : Around} (hr : Room k A) : A.units + 64 < cLine := hr.units
section
variable {K : PySem.W.Frag}
def fSub : FB := fun a b Q => match a, b with
  | .v (.int i), .v (.int j) => Q (.v (.int (i - j)))
  | .v (.bool x), .v (.int j) => Q (.v (.int ((if x = true then 1 else 0) - j)))
  | .v (.int j), .v (.bool x) => Q (.v (.int (j - if x = true then 1 else 0)))
  | _, _ => False
abbrev rSubA : R2 := r2or (rI0 fun i j => .int (i - j)) (r2or (rBI fun b j => (if b = true then 1 else 0) - j) (rIB fun j b => j - if b = true then 1 else 0))
theorem op_subA {X : Cx} : OpR X (binaryOp .Sub) rSubA := op_sub.or (op_subBI.or op_subIB)
theorem ops_sub : OpS K rSubA fSub := by
  intro F H u w a b Q R fo ra rb q k
  unfold fSub at q
  split at q
  · rw [int_of ra, int_of rb]
    exact .inl ⟨_, _, rfl, rfl, k _ _ F H q (fun _ _ z => nomatch z) (.same fo (.int _))⟩
  · rw [int_of rb]
    cases (show R1 K F H u (.bool _) from ra)
    exact .inr (.inl ⟨_, _, rfl, rfl, k _ _ F H q (fun _ _ z => nomatch z) (.same fo (.int _))⟩)
  · rw [int_of ra]
    cases (show R1 K F H w (.bool _) from rb)
    exact .inr (.inr ⟨_, _, rfl, rfl, k _ _ F H q (fun _ _ z => nomatch z) (.same fo (.int _))⟩)
  · exact q.elim
/-- one of both is small, or both are not too great -/
def CMulA (i j : Int) : Prop := CMul i j ∨ CMulW i j
abbrev rMulA : R2 := r2or (rI CMul fun i j => .int (i * j)) (rI CMulW fun i j => .int (i * j))
theorem op_mulA {X : Cx} : OpR X (binaryOp .Mult) rMulA := op_mul.or op_mulW
def fMul : FB := fII CMulA fun i j => .int (i * j)
theorem ops_mul : OpS K rMulA fMul := by
  intro F H u w a b Q R fo ra rb ⟨i, j, e1, e2, c, q⟩ k
  subst e1 e2
  have q2 := k _ _ F H q (fun _ _ z => nomatch z) (.same fo (.int _))
  rcases c with c | c
  · exact .inl ⟨i, j, int_of ra, int_of rb, c, q2⟩
  · exact .inr ⟨i, j, int_of ra, int_of rb, c, q2⟩
theorem mulL {i j : Int} (h1 : -18446744073709551616 < i) (h2 : i < 18446744073709551616) : CMulA i j := .inl (.inl ⟨h1, h2⟩)
theorem mulR {i j : Int} (h1 : -18446744073709551616 < j) (h2 : j < 18446744073709551616) : CMulA i j := .inl (.inr ⟨h1, h2⟩)
def fDiv : FB := fII CDivW fun i j => .int (i / j)
theorem ops_div : OpS K (rI CDivW fun i j => .int (i / j)) fDiv := ops_II (i1 _)
def fMod : FB := fII (fun _ j => 0 < j) fun i j => .int (i % j)
theorem ops_mod : OpS K (rI (fun _ j => 0 < j) fun i j => .int (i % j)) fMod := ops_II (i1 _)
def fPow : FB := fII CPow fun i j => .int (i ^ j.toNat)
theorem ops_pow : OpS K (rI CPow fun i j => .int (i ^ j.toNat)) fPow := ops_II (i1 _)
def fGcd : FC := fI2 fun a b => ((Nat.gcd a.natAbs b.natAbs : Nat) : Int)
def fAbs : FC := fI1 fun i => if i < 0 then -i else i
def fMin2 : FC := fI2 fun i j => if j < i then j else i
def fMax2 : FC := fI2 fun i j => if j > i then j else i
/-- <, <=, >, >= of two ints, of two texts -/
abbrev rStrCmp (p : List Nat → List Nat → Bool) : R2 := fun x y H Q => ∃ i j, x = .str i ∧ y = .str j ∧ Q (.bl (p i.cps.toList j.cps.toList)) H
def fCmp (p : Int → Int → Bool) (q : List Nat → List Nat → Bool) : FB := fun a b Q => match a, b with
  | .v (.int i), .v (.int j) => Q (.v (.bool (p i j)))
  | .v (.str x), .v (.str y) => Q (.v (.bool (q x.cps.toList y.cps.toList)))
  | _, _ => False
theorem ops_cmp {p : Int → Int → Bool} {q : List Nat → List Nat → Bool} : OpS K (r2or (rI0 fun i j => .bl (p i j)) (rStrCmp q)) (fCmp p q) := by
  intro F H u w a b Q R fo ra rb h k
  unfold fCmp at h
  split at h
  · rw [int_of ra, int_of rb]
    exact .inl ⟨_, _, rfl, rfl, k _ _ F H h (fun _ _ z => nomatch z) (.same fo (.bl _))⟩
  · rw [str_of ra, str_of rb]
    exact .inr ⟨_, _, rfl, rfl, k _ _ F H h (fun _ _ z => nomatch z) (.same fo (.bl _))⟩
  · exact h.elim
def fLt : FB := fCmp (fun i j => decide (i < j)) (fun x y => decide (x < y))
theorem op_ltA {X : Cx} : OpR X (compareOp .Lt) (r2or (rI0 fun i j => .bl (decide (i < j))) (rStrCmp fun x y => decide (x < y))) := op_lt.or op_lt_str
theorem ops_ltA : OpS K (r2or (rI0 fun i j => .bl (decide (i < j))) (rStrCmp fun x y => decide (x < y))) fLt := ops_cmp
def fLe : FB := fII (fun _ _ => True) fun i j => .bool (decide (i ≤ j))
theorem op_leA {X : Cx} : OpR X (compareOp .LtE) (rI0 fun i j => .bl (decide (i ≤ j))) := op_le
theorem ops_leA : OpS K (rI0 fun i j => .bl (decide (i ≤ j))) fLe := ops_II0 (b1 _)
def fGt : FB := fII (fun _ _ => True) fun i j => .bool (decide (j < i))
theorem op_gtA {X : Cx} : OpR X (compareOp .Gt) (rI0 fun i j => .bl (decide (j < i))) := op_gt
theorem ops_gtA : OpS K (rI0 fun i j => .bl (decide (j < i))) fGt := ops_II0 (b1 _)
def fGe : FB := fII (fun _ _ => True) fun i j => .bool (decide (j ≤ i))
theorem op_geA {X : Cx} : OpR X (compareOp .GtE) (rI0 fun i j => .bl (decide (j ≤ i))) := op_ge
theorem ops_geA : OpS K (rI0 fun i j => .bl (decide (j ≤ i))) fGe := ops_II0 (b1 _)
end
def vNotT (t : TVb) : TVb := fun ρ Q => t ρ fun b => Q (!b)
def vSome (t : TV) : TVo := fun ρ Q => t ρ fun s => isI s fun i => Q (some i)
def vSeqI (t : TV) : TVl := fun ρ Q => t ρ fun s => ∃ ds, s.items = some ds ∧ Q ds
def vRetN : TVS := fun E _ => E.rt (.v .none)
section
variable {X : Cx} {e : Expr} {t : TV}
def vNeg (t : TV) : TV := fun ρ Q => t ρ fun s => isI s fun i => Q (.v (.int (-i)))
theorem ve_neg {κ1 : Nat} {pos : Pos} (h : VE X e t κ1) : VE X (.UnaryOp .USub e pos) (vNeg t) κ1 := by
  obtain ⟨te, pe, g⟩ := h
  refine ⟨_, pe_un un_neg pe, fun B F H σ ρ Q R er bq t k => ?_⟩
  refine g B F H σ ρ _ _ er (by omega) t fun s u F' H' cq ⟨i, e, q⟩ x => ?_
  subst e
  exact ⟨i, int_of x.sr, k _ _ F' H' (by omega) q ⟨x.toExt, .int _, trivial⟩⟩
/-- keywords' values -/
def VK (X : Cx) (ks : List Keyword) (t : TVs) (κ : Nat) : Prop := ∃ ta, PK X ks ta ∧
  ∀ B F H σ ρ (Q : List SV → Prop) (R : List V → Hp → Prop), ER X.K B F H σ ρ → F.ck + κ ≤ LIM → t ρ Q →
    (∀ ss us (F' : FS) H', F'.ck ≤ F.ck + κ → Q ss → Ext ρ F H F' H' → AllR X.K ρ F' H' H us ss → R us H') → ta σ H R
theorem vk_nil : VK X [] vNil 0 := ⟨_, pk_nil, fun B F H σ ρ Q R er bq t k => k [] [] F H (by omega) t er.refl trivial⟩
theorem AllR.back {K : PySem.W.Frag} {ρ : Env} {F F1 F2 : FS} {H H1 H2 : Hp} (x : Ext ρ F H F1 H1) : ∀ {us : List V} {ss : List SV}, AllR K ρ F2 H2 H1 us ss → AllR K ρ F2 H2 H us ss
  | [], [], _ => trivial
  | _ :: _, _ :: _, ⟨a, b, c⟩ => ⟨a, b.back x, AllR.back x c⟩
  | [], _ :: _, h => h.elim
  | _ :: _, [], h => h.elim
theorem vk_cons {κ1 κ2 : Nat} {nm : Option Str} {kpos : Pos} {ks : List Keyword} {r : TVs} (h : VE X e t κ1) (hr : VK X ks r κ2) : VK X (⟨nm, e, kpos⟩ :: ks) (vCons t r) (κ1 + κ2) := by
  obtain ⟨te, pe, g⟩ := h
  obtain ⟨ta, pa, ga⟩ := hr
  refine ⟨_, pk_cons pe pa, fun B F H σ ρ Q R er bq t k => ?_⟩
  refine g B F H σ ρ _ _ er (by omega) t fun s u F1 H1 cq q1 r1 => ?_
  refine ga B F1 H1 σ ρ _ _ (er.step r1.toExt) (by omega) q1 fun ss us F2 H2 cq q2 x2 a2 => ?_
  exact k (s :: ss) (u :: us) F2 H2 (by omega) q2 (r1.toExt.trans x2) ⟨r1.sr.keep r1.fo er.refl.cp x2, r1.fo, a2.back r1.toExt⟩
theorem AllR.append {K : PySem.W.Frag} {ρ : Env} {F : FS} {H H1 : Hp} : ∀ {us : List V} {ss : List SV} {vs : List V} {ts : List SV}, AllR K ρ F H H1 us ss → AllR K ρ F H H1 vs ts → AllR K ρ F H H1 (us ++ vs) (ss ++ ts)
  | [], [], _, _, _, h => h
  | _ :: _, _ :: _, _, _, ⟨a, b, c⟩, h => ⟨a, b, AllR.append c h⟩
  | [], _ :: _, _, _, h, _ => h.elim
  | _ :: _, [], _, _, h, _ => h.elim
/-- the places js of a list -/
def sel (js : List Nat) {α : Type} (l : List α) : List α := js.filterMap fun j => l[j]?
theorem sel_cons {j : Nat} {js : List Nat} {α : Type} {l : List α} {x : α} (h : l[j]? = some x) : sel (j :: js) l = x :: sel js l := by
  unfold sel
  rw [List.filterMap_cons, h]
theorem AllR.at {K : PySem.W.Frag} {ρ : Env} {F : FS} {H H1 : Hp} : ∀ {us : List V} {ss : List SV} (_ : AllR K ρ F H H1 us ss) (j : Nat), (us[j]? = none ∧ ss[j]? = none) ∨ ∃ u s, us[j]? = some u ∧ ss[j]? = some s ∧ SlotR K F H u s ∧ Fo ρ H1 u s
  | [], [], _, _ => .inl ⟨rfl, rfl⟩
  | u :: _, s :: _, ⟨a, b, _⟩, 0 => .inr ⟨u, s, rfl, rfl, a, b⟩
  | _ :: _, _ :: _, ⟨_, _, c⟩, j + 1 => by
    have := AllR.at c j
    simpa using this
  | [], _ :: _, h, _ => h.elim
  | _ :: _, [], h, _ => h.elim
theorem AllR.sel {K : PySem.W.Frag} {ρ : Env} {F : FS} {H H1 : Hp} {us : List V} {ss : List SV} (a : AllR K ρ F H H1 us ss) : ∀ js : List Nat, AllR K ρ F H H1 (VL.sel js us) (VL.sel js ss)
  | [] => trivial
  | j :: js => by
    have ih := AllR.sel a js
    unfold VL.sel at ih ⊢
    rw [List.filterMap_cons, List.filterMap_cons]
    rcases a.at j with ⟨h1, h2⟩ | ⟨u, s, h1, h2, h3, h4⟩
    · rw [h1, h2]; exact ih
    · rw [h1, h2]; exact ⟨h3, h4, ih⟩
theorem vals_at : ∀ {vs : List V} {us : List Value} (_ : Vals vs us) (j : Nat), (vs[j]? = none ∧ us[j]? = none) ∨ ∃ v u, vs[j]? = some v ∧ us[j]? = some u ∧ RelV v u
  | _, _, .nil, _ => .inl ⟨rfl, rfl⟩
  | _, _, .cons a _, 0 => .inr ⟨_, _, rfl, rfl, a⟩
  | _, _, .cons _ b, j + 1 => by
    have := vals_at b j
    simpa using this
theorem vals_sel {vs : List V} {us : List Value} (a : Vals vs us) : ∀ js : List Nat, Vals (sel js vs) (sel js us)
  | [] => .nil
  | j :: js => by
    have ih := vals_sel a js
    unfold sel at ih ⊢
    rw [List.filterMap_cons, List.filterMap_cons]
    rcases vals_at a j with ⟨h1, h2⟩ | ⟨v, u, h1, h2, h3⟩
    · rw [h1, h2]; exact ih
    · rw [h1, h2]; exact .cons h3 ih
/-- f(e, .., k = v, ..), the keywords in the order of the parameters behind -/
def vCallK (n1 n2 n : Nat) (tf : TF) (t tk : TVs) : TV := fun ρ Q => t ρ fun ss => tk ρ fun zs => TapsOld ρ (ss ++ zs) ∧ ∃ ts, hands (ss ++ zs) = some ts ∧ ss.length = n1 ∧ zs.length = n2 ∧ ts.length = n ∧ tf ts Q
theorem ve_callK {κ1 κ2 κ : Nat} {n1 n2 n : Nat} {tf : TF} {es : List Expr} {ks : List Keyword} {t tk : TVs} (h : ∀ ta tk', PA X es ta → PK X ks tk' → PE X e (tCallN n1 n2 (spOf X.K n κ tf) (fun a b => a ++ b) E0 ta tk')) (ha : VA X es t κ1) (hk : VK X ks tk κ2) : VE X e (vCallK n1 n2 n tf t tk) (κ1 + κ2 + κ) := by
  obtain ⟨ta, pa, g⟩ := ha
  obtain ⟨tke, pk, gk⟩ := hk
  refine ⟨_, h ta tke pa pk, fun B F H σ ρ Q R er bq t k => ?_⟩
  refine g B F H σ ρ _ _ er (by omega) t fun ss us F1 H1 cq q1 x1 a1 => ?_
  refine gk B F1 H1 σ ρ _ _ (er.step x1) (by omega) q1 fun zs vs F2 H2 cq ⟨ol, ts, e, l1, l2, hn, q⟩ x2 a2 => ?_
  have al := (a1.keep er.refl.cp x2).append (a2.back x1)
  have := call_go (dss := []) (vs := []) (x1.trans x2) al ol e (fun _ _ => .nil) (by simpa using hn) (κ := κ) (by omega) (tf := tf) (Q := Q) (R := R) (by simpa using q) fun s u F' H' c => k s u F' H' (by omega)
  rw [List.append_nil] at this
  exact ⟨a1.len.trans l1, a2.len.trans l2, this⟩
/-- the same, the arguments by their places js -/
def vCallP (n1 n2 n : Nat) (js : List Nat) (tf : TF) (t tk : TVs) : TV := fun ρ Q => t ρ fun ss => tk ρ fun zs => TapsOld ρ (sel js (ss ++ zs)) ∧ ∃ ts, hands (sel js (ss ++ zs)) = some ts ∧ ss.length = n1 ∧ zs.length = n2 ∧ ts.length = n ∧ tf ts Q
theorem ve_callP {κ1 κ2 κ : Nat} {n1 n2 n : Nat} {js : List Nat} {tf : TF} {es : List Expr} {ks : List Keyword} {t tk : TVs} (h : ∀ ta tk', PA X es ta → PK X ks tk' → PE X e (tCallN n1 n2 (spOf X.K n κ tf) (fun a b => sel js (a ++ b)) E0 ta tk')) (ha : VA X es t κ1) (hk : VK X ks tk κ2) : VE X e (vCallP n1 n2 n js tf t tk) (κ1 + κ2 + κ) := by
  obtain ⟨ta, pa, g⟩ := ha
  obtain ⟨tke, pk, gk⟩ := hk
  refine ⟨_, h ta tke pa pk, fun B F H σ ρ Q R er bq t k => ?_⟩
  refine g B F H σ ρ _ _ er (by omega) t fun ss us F1 H1 cq q1 x1 a1 => ?_
  refine gk B F1 H1 σ ρ _ _ (er.step x1) (by omega) q1 fun zs vs F2 H2 cq ⟨ol, ts, e, l1, l2, hn, q⟩ x2 a2 => ?_
  have al := (a1.keep er.refl.cp x2).append (a2.back x1)
  have := call_go (dss := []) (vs := []) (x1.trans x2) (al.sel js) ol e (fun _ _ => .nil) (by simpa using hn) (κ := κ) (by omega) (tf := tf) (Q := Q) (R := R) (by simpa using q) fun s u F' H' c => k s u F' H' (by omega)
  rw [List.append_nil] at this
  exact ⟨a1.len.trans l1, a2.len.trans l2, this⟩
/-- f(k = v, ..) -/
theorem ve_callP0 {κ1 κ : Nat} {n2 n : Nat} {js : List Nat} {tf : TF} {ks : List Keyword} {tk : TVs} (h : ∀ tk', PK X ks tk' → PE X e (tCallN 0 n2 (spOf X.K n κ tf) (fun a b => sel js (a ++ b)) E0 tNil tk')) (hk : VK X ks tk κ1) : VE X e (vCallP 0 n2 n js tf vNil tk) (κ1 + κ) := by
  obtain ⟨tke, pk, gk⟩ := hk
  refine ⟨_, h tke pk, fun B F H σ ρ Q R er bq t k => ?_⟩
  refine gk B F H σ ρ _ _ er (by omega) t fun zs vs F2 H2 cq ⟨ol, ts, e, l1, l2, hn, q⟩ x2 a2 => ?_
  have := call_go (us := sel js ([] ++ vs)) (ss := sel js ([] ++ zs)) (dss := []) (vs := []) x2 (a2.sel js) ol e (fun _ _ => .nil) (by simpa using hn) (κ := κ) (by omega) (tf := tf) (Q := Q) (R := R) (by simpa using q) fun s u F' H' c => k s u F' H' (by omega)
  rw [List.append_nil] at this
  exact ⟨rfl, a2.len.trans l2, this⟩
end
section
variable {P : Program} {w : World} {K : PySem.W.Frag} {mg : Str → Option Value} {base : Heap} {x qual : Str} {pr : Arguments} {body : List Stmt} {sc : Scope} {dvs : List V} {kws : List (Str × V)} {f : Addr} {fd : FuncData} {ps : List Str}
theorem kbn_all {n : Nat} {ks : List Str} (F : FunD K x qual pr body sc [] kws f fd)
    (h : ∀ (kV doc pm : Value) (an : Option Addr) (cdv ct : Value) (us ws : List Value), us.length = n → ws.length = ks.length → bindArgs (PySem.W.fnOf x qual pr body sc .none kV doc pm an cdv ct) ⟨us, ks.zip ws⟩ = pure (ps.zip (us ++ ws))) :
    KBn K fd ps n ks (fun us ws => us ++ ws) (fun us ws => us ++ ws) := by
  obtain ⟨oc, od, dV, kV, doc, pm, an, cdv, ct, osl, rfl, lk, hcd, hD, hK⟩ := F.ex
  rcases hD with ⟨_, rfl⟩ | ⟨z, _⟩
  · exact ⟨fun s us ws _ h1 h2 => .of_eq (h kV doc pm an cdv ct us ws h1 h2), fun a b => a.append b⟩
  · exact absurd rfl z
theorem kbn_sel {n : Nat} {ks : List Str} (js : List Nat) (F : FunD K x qual pr body sc [] kws f fd)
    (h : ∀ (kV doc pm : Value) (an : Option Addr) (cdv ct : Value) (us ws : List Value), us.length = n → ws.length = ks.length → bindArgs (PySem.W.fnOf x qual pr body sc .none kV doc pm an cdv ct) ⟨us, ks.zip ws⟩ = pure (ps.zip (sel js (us ++ ws)))) :
    KBn K fd ps n ks (fun us ws => sel js (us ++ ws)) (fun us ws => sel js (us ++ ws)) := by
  obtain ⟨oc, od, dV, kV, doc, pm, an, cdv, ct, osl, rfl, lk, hcd, hD, hK⟩ := F.ex
  rcases hD with ⟨_, rfl⟩ | ⟨z, _⟩
  · exact ⟨fun s us ws _ h1 h2 => .of_eq (h kV doc pm an cdv ct us ws h1 h2), fun a b => vals_sel (a.append b) js⟩
  · exact absurd rfl z
theorem def_bodyD {k κ : Nat} {N : List Str} {t : TVS} (F : FunD K x qual pr body sc dvs kws f fd) (S : FnScope N ps sc)
    (hb : ∀ (f : Addr) (cdv : Value) (A : Around) (outer : List PySem.Env) (s : Shared) (H : Hp) (E : XK), Room k (A.deeper (envOfC qual sc s.heap.objs.size f cdv)) → Still A → ∃ κ', κ' ≤ κ ∧ VSs (cxOf CX0 P w K mg base N qual sc f cdv A outer s H E).nox body t κ') :
    GOk P w K mg base CX0 (k + 1) f fd ps (spOf K ps.length κ (vDef N.length t)) := by
  obtain ⟨oc, od, dV, kV, doc, pm, an, cdv, ct, osl, rfl, lk, hcd, hD, hK⟩ := F.ex
  exact def_body lk hcd S fun A outer s H E hr gd => hb f cdv A outer s H E hr gd
end
/-- a, b = [..], e -/
def vParO (i j : Nat) (t : TVs) : TVS := fun E ρ => t ρ fun ss => ∃ ds b, ss = [.own ds, .v b] ∧ E.nx ((ρ.set i (.own ds)).set j (.v b))
end VL
namespace VL
open PySem PySem.Spec PyProof.Rows L2 VG

section
variable {C : Int → Int → Prop} {g : Int → Int → PyData} {i j : Int} {Q : SV → Prop} {d e : PyData} {ds es : List PyData} {ρ : Env} {s : SV} {ss : List SV} {P : Bool → Prop}
@[simp] theorem ex_eq {α : Sort _} {a : α} {P : α → Prop} : (∃ x, a = x ∧ P x) ↔ P a := ⟨fun ⟨_, e, h⟩ => e ▸ h, fun h => ⟨a, rfl, h⟩⟩
@[simp] theorem m_ii : fII C g (.v (.int i)) (.v (.int j)) Q = (C i j ∧ Q (.v (g i j))) := by simp [fII]
@[simp] theorem m_bin {f : FB} {ta tb : TV} : vBin f ta tb ρ Q = ta ρ fun a => tb ρ fun b => f a b Q := (Eq.refl _).trans (Eq.refl _)
@[simp] theorem m_c : vC d ρ Q = Q (.v d) := (Eq.refl _).trans (Eq.refl _)
@[simp] theorem m_cb {f : FC} {t : TVs} : vCB f t ρ Q = t ρ fun ss => f ss Q := (Eq.refl _).trans (Eq.refl _)
@[simp] theorem m_nil {R : List SV → Prop} : vNil ρ R = R [] := (Eq.refl _).trans (Eq.refl _)
@[simp] theorem m_cons {t : TV} {r : TVs} {R : List SV → Prop} : vCons t r ρ R = t ρ fun s => r ρ fun ss => R (s :: ss) := (Eq.refl _).trans (Eq.refl _)
@[simp] theorem m_i1 {f : Int → Int} : fI1 f [.v (.int i)] Q = Q (.v (.int (f i))) := by simp [fI1]
@[simp] theorem m_i2 {f : Int → Int → Int} : fI2 f [.v (.int i), .v (.int j)] Q = Q (.v (.int (f i j))) := by simp [fI2, and_assoc]
@[simp] theorem m_test {t : TV} : vTest t ρ P = t ρ fun s => ∃ b, s = .v (.bool b) ∧ P b := (Eq.refl _).trans (Eq.refl _)
@[simp] theorem m_isB {b : Bool} : isB (.v (.bool b)) P = P b := by simp [isB]
@[simp] theorem m_isI {R : Int → Prop} : isI (.v (.int i)) R = R i := by simp [isI]
@[simp] theorem m_if {c : TVb} {t u : TV} : vIf c t u ρ Q = c ρ fun b => if b = true then t ρ Q else u ρ Q := (Eq.refl _).trans (Eq.refl _)
@[simp] theorem m_and {t u : TVb} : vAnd t u ρ P = t ρ fun b => if b = true then u ρ P else P false := (Eq.refl _).trans (Eq.refl _)
@[simp] theorem m_or {t u : TVb} : vOr t u ρ P = t ρ fun b => if b = true then P true else u ρ P := (Eq.refl _).trans (Eq.refl _)
@[simp] theorem m_notT {t : TVb} : vNotT t ρ P = t ρ fun b => P (!b) := (Eq.refl _).trans (Eq.refl _)
@[simp] theorem m_andV {t u : TV} : vAndV t u ρ Q = t ρ fun s => isB s fun b => if b = true then u ρ Q else Q (.v (.bool false)) := (Eq.refl _).trans (Eq.refl _)
@[simp] theorem m_orV {t u : TV} : vOrV t u ρ Q = t ρ fun s => isB s fun b => if b = true then Q (.v (.bool true)) else u ρ Q := (Eq.refl _).trans (Eq.refl _)
@[simp] theorem m_notV {t : TV} : vNotV t ρ Q = t ρ fun s => isB s fun b => Q (.v (.bool (!b))) := (Eq.refl _).trans (Eq.refl _)
@[simp] theorem m_neg {t : TV} : vNeg t ρ Q = t ρ fun s => isI s fun i => Q (.v (.int (-i))) := (Eq.refl _).trans (Eq.refl _)
@[simp] theorem m_tup {t : TVs} : vTup t ρ Q = t ρ fun ss => ∃ ds, datasIn ss = some ds ∧ ds.length ≤ 100000 ∧ Q (.v (.tuple ds)) := (Eq.refl _).trans (Eq.refl _)
@[simp] theorem m_lst {t : TVs} : vLst t ρ Q = t ρ fun ss => ∃ ds, datasIn ss = some ds ∧ ds.length ≤ 100000 ∧ Q (.own ds) := (Eq.refl _).trans (Eq.refl _)
@[simp] theorem hand_v : SV.hand (.v d) = some (.v d) := (Eq.refl _).trans (Eq.refl _)
@[simp] theorem hand_own : SV.hand (.own ds) = some (.v (.list ds)) := (Eq.refl _).trans (Eq.refl _)
@[simp] theorem hand_cell {a : Addr} {ns : Cel} : SV.hand (.cell a ns) = some (.cell a ns) := (Eq.refl _).trans (Eq.refl _)
@[simp] theorem hand_scr {ns : List Int} : SV.hand (.scr ns) = some (.scr ns) := (Eq.refl _).trans (Eq.refl _)
@[simp] theorem lend_v : SV.lend (.v d) = .v d := (Eq.refl _).trans (Eq.refl _)
theorem lend_ow {c : CT} : SV.lend (.ow c ds) = .bw c ds := (Eq.refl _).trans (Eq.refl _)
@[simp] theorem lend_own : SV.lend (.own ds) = .brw ds := (Eq.refl _).trans (Eq.refl _)
@[simp] theorem lend_cell {a : Addr} {ns : Cel} : SV.lend (.cell a ns) = .cell a ns := (Eq.refl _).trans (Eq.refl _)
@[simp] theorem lend_scr {ns : List Int} : SV.lend (.scr ns) = .scr ns := (Eq.refl _).trans (Eq.refl _)
@[simp] theorem hands_nil : hands [] = some [] := (Eq.refl _).trans (Eq.refl _)
@[simp] theorem hands_v : hands (.v d :: ss) = (hands ss).map (SV.v d :: ·) := by
  show (match SV.hand (.v d), hands ss with | some t, some ts => some (t :: ts) | _, _ => none) = _
  rcases hands ss <;> rfl
@[simp] theorem hands_own : hands (.own ds :: ss) = (hands ss).map (SV.v (.list ds) :: ·) := by
  show (match SV.hand (.own ds), hands ss with | some t, some ts => some (t :: ts) | _, _ => none) = _
  rcases hands ss <;> rfl
@[simp] theorem hands_cell {a : Addr} {ns : Cel} : hands (.cell a ns :: ss) = (hands ss).map (SV.cell a ns :: ·) := by
  show (match SV.hand (.cell a ns), hands ss with | some t, some ts => some (t :: ts) | _, _ => none) = _
  rcases hands ss <;> rfl
@[simp] theorem hands_scr {ns : List Int} : hands (.scr ns :: ss) = (hands ss).map (SV.scr ns :: ·) := by
  show (match SV.hand (.scr ns), hands ss with | some t, some ts => some (t :: ts) | _, _ => none) = _
  rcases hands ss <;> rfl
@[simp] theorem datasIn_nil : datasIn [] = some [] := (Eq.refl _).trans (Eq.refl _)
@[simp] theorem datasIn_v : datasIn (.v d :: ss) = (datasIn ss).map (d :: ·) := by
  unfold datasIn
  rw [hands_v]
  rcases hands ss with _ | ts
  · rfl
  · rfl
@[simp] theorem datasIn_own : datasIn (.own ds :: ss) = (datasIn ss).map (PyData.list ds :: ·) := by
  unfold datasIn
  rw [hands_own]
  rcases hands ss with _ | ts
  · rfl
  · rfl
@[simp] theorem m_fAbs : fAbs [.v (.int i)] Q = Q (.v (.int (if i < 0 then -i else i))) := m_i1
@[simp] theorem m_fMin : fMin2 [.v (.int i), .v (.int j)] Q = Q (.v (.int (if j < i then j else i))) := m_i2
@[simp] theorem m_fMax : fMax2 [.v (.int i), .v (.int j)] Q = Q (.v (.int (if j > i then j else i))) := m_i2
@[simp] theorem m_fGcd : fGcd [.v (.int i), .v (.int j)] Q = Q (.v (.int ((Nat.gcd i.natAbs j.natAbs : Nat) : Int))) := m_i2
@[simp] theorem m_fSub : fSub (.v (.int i)) (.v (.int j)) Q = Q (.v (.int (i - j))) := by simp [fSub]
@[simp] theorem m_fMul : fMul (.v (.int i)) (.v (.int j)) Q = (CMulA i j ∧ Q (.v (.int (i * j)))) := m_ii
@[simp] theorem m_fDiv : fDiv (.v (.int i)) (.v (.int j)) Q = (CDivW i j ∧ Q (.v (.int (i / j)))) := m_ii
@[simp] theorem m_fMod : fMod (.v (.int i)) (.v (.int j)) Q = (0 < j ∧ Q (.v (.int (i % j)))) := m_ii
@[simp] theorem m_fPow : fPow (.v (.int i)) (.v (.int j)) Q = (CPow i j ∧ Q (.v (.int (i ^ j.toNat)))) := m_ii
@[simp] theorem m_fAdd : fAdd (.v (.int i)) (.v (.int j)) Q = Q (.v (.int (i + j))) := (Eq.refl _).trans (Eq.refl _)
@[simp] theorem m_fLt : fLt (.v (.int i)) (.v (.int j)) Q = Q (.v (.bool (decide (i < j)))) := (Eq.refl _).trans (Eq.refl _)
@[simp] theorem m_fLe : fLe (.v (.int i)) (.v (.int j)) Q = Q (.v (.bool (decide (i ≤ j)))) := by simp [fLe]
@[simp] theorem m_fGt : fGt (.v (.int i)) (.v (.int j)) Q = Q (.v (.bool (decide (j < i)))) := by simp [fGt]
@[simp] theorem m_fGe : fGe (.v (.int i)) (.v (.int j)) Q = Q (.v (.bool (decide (j ≤ i)))) := by simp [fGe]
@[simp] theorem m_ixT : fIx (.v (.tuple ds)) (.v (.int i)) Q = ∃ d, atI ds i = some d ∧ Q (.v d) := by
  simp [fIx, SV.asQ, SV.asL, SV.asT]
@[simp] theorem m_ixL : fIx (.v (.list ds)) (.v (.int i)) Q = ∃ d, atI ds i = some d ∧ Q (.v d) := by
  simp [fIx, SV.asQ, SV.asL, SV.asT]
@[simp] theorem m_ixO : fIx (.own ds) (.v (.int i)) Q = ∃ d, atI ds i = some d ∧ Q (.v d) := by
  simp [fIx, SV.asQ, SV.asL, SV.asT]
@[simp] theorem m_ixB : fIx (.brw ds) (.v (.int i)) Q = ∃ d, atI ds i = some d ∧ Q (.v d) := by
  simp [fIx, SV.asQ, SV.asL, SV.asT]
@[simp] theorem m_lenL : fLen [.v (.list ds)] Q = Q (.v (.int ds.length)) := by simp [fLen, SV.asQ, SV.asL, SV.asT]
@[simp] theorem m_lenT : fLen [.v (.tuple ds)] Q = Q (.v (.int ds.length)) := by simp [fLen, SV.asQ, SV.asL, SV.asT]
@[simp] theorem m_lenO : fLen [.own ds] Q = Q (.v (.int ds.length)) := by simp [fLen, SV.asQ, SV.asL, SV.asT]
@[simp] theorem m_lenB : fLen [.brw ds] Q = Q (.v (.int ds.length)) := by simp [fLen, SV.asQ, SV.asL, SV.asT]
@[simp] theorem m_tupB : fTuple [.brw ds] Q = Q (.v (.tuple ds)) := by simp [fTuple, SV.asQ, SV.asL, SV.asT]
@[simp] theorem m_tupO : fTuple [.own ds] Q = Q (.v (.tuple ds)) := by simp [fTuple, SV.asQ, SV.asL, SV.asT]
@[simp] theorem m_tupL : fTuple [.v (.list ds)] Q = Q (.v (.tuple ds)) := by simp [fTuple, SV.asQ, SV.asL, SV.asT]
@[simp] theorem m_tupT : fTuple [.v (.tuple ds)] Q = Q (.v (.tuple ds)) := by simp [fTuple, SV.asQ, SV.asL, SV.asT]
@[simp] theorem m_lstO : fList [.own ds] Q = Q (.own ds) := by simp [fList, SV.asQ, SV.asL, SV.asT]
@[simp] theorem m_lstT : fList [.v (.tuple ds)] Q = Q (.own ds) := by simp [fList, SV.asQ, SV.asL, SV.asT]
@[simp] theorem m_lstL : fList [.v (.list ds)] Q = Q (.own ds) := by simp [fList, SV.asQ, SV.asL, SV.asT]
@[simp] theorem m_repr : fRepr [.v d] Q = (Shw d ∧ Q (.v (.str d.shown))) := by simp [fRepr, SV.asD]
@[simp] theorem m_reprO : fRepr [.own ds] Q = (Shw (.list ds) ∧ Q (.v (.str (PyData.list ds).shown))) := by simp [fRepr, SV.asD]
@[simp] theorem m_reprB : fRepr [.brw ds] Q = (Shw (.list ds) ∧ Q (.v (.str (PyData.list ds).shown))) := by simp [fRepr, SV.asD]
@[simp] theorem m_eq {neg : Bool} {t : SV} (h1 : s.asD = some d) (h2 : t.asD = some e) : fEq neg s t Q = eqD d e fun c => Q (.v (.bool (if neg then !c else c))) := by simp [fEq, h1, h2]
@[simp] theorem m_eqS {neg : Bool} {x y : Str} : fEq neg (.v (.str x)) (.v (.str y)) Q = Q (.v (.bool (if neg then !(x == y) else x == y))) := by simp [fEq, SV.asD, eqD]
@[simp] theorem m_eqI {neg : Bool} : fEq neg (.v (.int i)) (.v (.int j)) Q = Q (.v (.bool (if neg then !(i == j) else i == j))) := by simp [fEq, SV.asD, eqD]
@[simp] theorem m_eqB {neg : Bool} {x y : Bool} : fEq neg (.v (.bool x)) (.v (.bool y)) Q = Q (.v (.bool (if neg then !(x == y) else x == y))) := by simp [fEq, SV.asD, eqD]
end
section
variable {E : VEnds} {ρ : Env} {Q : SV → Prop} {P : Bool → Prop} {s : SV} {d : PyData} {ds : List PyData} {i j n : Nat} {t u : TVS} {te : TV} {c : TVb} {ts : TVs} {x : Bool}
theorem b_ex {c : Bool} : (∃ b, SV.v (.bool c) = .v (.bool b) ∧ P b) ↔ P c :=
  ⟨fun ⟨b, e, h⟩ => by injection e with e; injection e with e; rw [e]; exact h, fun h => ⟨c, rfl, h⟩⟩
theorem s_seq : vSeq t u E ρ = t { E with nx := u E } ρ := (Eq.refl _).trans (Eq.refl _)
theorem s_next : vNext E ρ = E.nx ρ := (Eq.refl _).trans (Eq.refl _)
theorem s_asg : vAsg i te E ρ = te ρ fun s => ∃ z, s.hand = some z ∧ E.nx (ρ.set i z) := (Eq.refl _).trans (Eq.refl _)
theorem some_ex {α : Type} {a : α} {P : α → Prop} : (∃ z, some a = some z ∧ P z) ↔ P a := ⟨fun ⟨z, e, h⟩ => by injection e with e; rw [e]; exact h, fun h => ⟨a, rfl, h⟩⟩
theorem s_asgO : vAsgO i te E ρ = te ρ fun s => match s with | .ow c ds => E.nx (ρ.set i (.ow c ds)) | _ => False := (Eq.refl _).trans (Eq.refl _)
theorem s_ret : vRet te E ρ = te ρ fun s => ∃ z, s.hand = some z ∧ E.rt z := (Eq.refl _).trans (Eq.refl _)
theorem s_retN : vRetN E ρ = E.rt (.v .none) := (Eq.refl _).trans (Eq.refl _)
theorem s_if : vIfS c t u E ρ = c ρ fun b => if b = true then t E ρ else u E ρ := (Eq.refl _).trans (Eq.refl _)
theorem s_drop : vDrop te E ρ = te ρ fun _ => E.nx ρ := (Eq.refl _).trans (Eq.refl _)
theorem s_frz : vFrz i t E ρ = ∃ c ds, ρ[i]? = some (.ow c ds) ∧ t E (ρ.set i (c.fro ds)) := (Eq.refl _).trans (Eq.refl _)
theorem fro_lst : CT.fro .lst ds = .v (.list ds) := (Eq.refl _).trans (Eq.refl _)
theorem fro_K {ks : List L2.Key} : CT.fro (.K ks) ds = .v (.dict ((ks.zip ds).map fun kv => (kD kv.1, kv.2))) := (Eq.refl _).trans (Eq.refl _)
theorem fro_T {ks : List (List L2.Key)} : CT.fro (.T ks) ds = .fz ks ds := (Eq.refl _).trans (Eq.refl _)
theorem s_app : vAppend i te E ρ = ∃ ds, ρ[i]? = some (.own ds) ∧ te ρ fun s => ∃ d, datasIn [s] = some [d] ∧ ds.length < 100000 ∧ E.nx (ρ.set i (.own (ds ++ [d]))) := (Eq.refl _).trans (Eq.refl _)
theorem s_ext : vExtend i te E ρ = ∃ ds, ρ[i]? = some (.own ds) ∧ te ρ fun s => ∃ es, s.asW = some es ∧ ds.length + es.length ≤ 100000 ∧ E.nx (ρ.set i (.own (ds ++ es))) := (Eq.refl _).trans (Eq.refl _)
theorem s_par : vPar i j ts E ρ = ts ρ fun ss => ∃ a b, datasIn ss = some [a, b] ∧ E.nx ((ρ.set i (.v a)).set j (.v b)) := (Eq.refl _).trans (Eq.refl _)
theorem s_asgT {g : TGt} : vAsgT te g E ρ = te ρ fun s => ∃ d, s = .v d ∧ g d ρ E.nx := (Eq.refl _).trans (Eq.refl _)
theorem s_for {it : TVl} {g : TGt} : vFor it g t E ρ = it ρ fun ds => vLoop g t E ds ρ := (Eq.refl _).trans (Eq.refl _)
theorem s_cells : vCells i ρ Q = ∃ (a : Addr) (ns : List Int), ρ[i]? = some (.cell a ⟨false, ns⟩) ∧ Q (.v (.list (ns.map .int))) := (Eq.refl _).trans (Eq.refl _)
theorem s_cellN : vCellN i ρ Q = ∃ (a : Addr) (ns : List Int), ρ[i]? = some (.cell a ⟨false, ns⟩) ∧ ∀ n : Int, Q (.v (.int n)) := (Eq.refl _).trans (Eq.refl _)
theorem s_cellSet : vCellSet i te E ρ = ∃ (a : Addr) (ns : List Int), ρ[i]? = some (.cell a ⟨false, ns⟩) ∧ te ρ fun s => isI s fun _ => E.nx ρ := (Eq.refl _).trans (Eq.refl _)
theorem s_feed : vFeed te ρ Q = te ρ fun s => ∃ ns : List Int, s = .own (ns.map .int) ∧ ∀ a, Q (.cell a ⟨false, ns⟩) := (Eq.refl _).trans (Eq.refl _)
theorem s_call {tf : TF} {dss : List PyData} : vCall n tf dss ts ρ Q = ts ρ fun ss => TapsOld ρ ss ∧ ∃ ts, hands ss = some ts ∧ ts.length + dss.length = n ∧ tf (ts ++ dss.map .v) Q := (Eq.refl _).trans (Eq.refl _)
theorem s_callK {n1 n2 : Nat} {tf : TF} {tk : TVs} : vCallK n1 n2 n tf ts tk ρ Q = ts ρ fun ss => tk ρ fun zs => TapsOld ρ (ss ++ zs) ∧ ∃ ts, hands (ss ++ zs) = some ts ∧ ss.length = n1 ∧ zs.length = n2 ∧ ts.length = n ∧ tf ts Q := (Eq.refl _).trans (Eq.refl _)
theorem inE_cons {s t : SV} {r : List SV} : inE s (t :: r) = (t = s ∨ inE s r) := (Eq.refl _).trans (Eq.refl _)
theorem inE_self {s : SV} {r : List SV} : inE s (s :: r) = True := propext ⟨fun _ => trivial, fun _ => .inl rfl⟩
theorem taps_nil : TapsOld ρ [] = True := (Eq.refl _).trans (Eq.refl _)
theorem taps_v : TapsOld ρ (.v d :: ss) = TapsOld ρ ss := propext ⟨fun h => h.2, fun h => ⟨trivial, h⟩⟩
theorem taps_own : TapsOld ρ (.own ds :: ss) = TapsOld ρ ss := propext ⟨fun h => h.2, fun h => ⟨trivial, h⟩⟩
theorem taps_scr {ns : List Int} : TapsOld ρ (.scr ns :: ss) = TapsOld ρ ss := propext ⟨fun h => h.2, fun h => ⟨trivial, h⟩⟩
theorem taps_dct {kvs : List (L2.Key × PyData)} : TapsOld ρ (.dct kvs :: ss) = TapsOld ρ ss := propext ⟨fun h => h.2, fun h => ⟨trivial, h⟩⟩
theorem taps_cell {a : Addr} {ns : List Int} : TapsOld ρ (.cell a ⟨false, ns⟩ :: ss) = (inE (.cell a ⟨false, ns⟩) ρ ∧ TapsOld ρ ss) := (Eq.refl _).trans (Eq.refl _)
theorem taps_tap {a : Addr} {ns : List Int} : TapsOld ρ (.cell a ⟨true, ns⟩ :: ss) = (inE (.cell a ⟨true, ns⟩) ρ ∧ TapsOld ρ ss) := (Eq.refl _).trans (Eq.refl _)
theorem cell_ex {a : Addr} {t : Bool} {ns : List Int} {P : Addr → List Int → Prop} : (∃ (b : Addr) (ms : List Int), some (SV.cell a ⟨t, ns⟩) = some (.cell b ⟨t, ms⟩) ∧ P b ms) ↔ P a ns :=
  ⟨fun ⟨b, ms, e, h⟩ => by
    have e := Option.some.inj e
    injection e with e1 e2
    injection e2 with e2 e3
    rw [e1, e3]; exact h, fun h => ⟨a, ns, rfl, h⟩⟩
theorem own_ex {P : List PyData → Prop} : (∃ es, some (SV.own ds) = some (.own es) ∧ P es) ↔ P ds :=
  ⟨fun ⟨b, e, h⟩ => by injection e with e; injection e with e e2; rw [e2]; exact h, fun h => ⟨ds, rfl, h⟩⟩
theorem ow_ex {c0 : CT} {P : CT → List PyData → Prop} : (∃ c es, some (SV.ow c0 ds) = some (.ow c es) ∧ P c es) ↔ P c0 ds :=
  ⟨fun ⟨c, b, e, h⟩ => by injection e with e; injection e with e e2; rw [e, e2]; exact h, fun h => ⟨c0, ds, rfl, h⟩⟩
theorem v_ex {P : PyData → Prop} : (∃ e, SV.v d = .v e ∧ P e) ↔ P d :=
  ⟨fun ⟨b, e, h⟩ => by injection e with e; rw [e]; exact h, fun h => ⟨d, rfl, h⟩⟩
theorem pair_ex {a b : PyData} {P : PyData → PyData → Prop} : (∃ x y, some [a, b] = some [x, y] ∧ P x y) ↔ P a b :=
  ⟨fun ⟨x, y, e, h⟩ => by
    simp only [Option.some.injEq, List.cons.injEq, and_true] at e
    rw [e.1, e.2]; exact h, fun h => ⟨a, b, rfl, h⟩⟩
theorem one_ex {a : PyData} {P : PyData → Prop} : (∃ x, some [a] = some [x] ∧ P x) ↔ P a :=
  ⟨fun ⟨x, e, h⟩ => by
    simp only [Option.some.injEq, List.cons.injEq, and_true] at e
    rw [e]; exact h, fun h => ⟨a, rfl, h⟩⟩
theorem g_name : vgName i d ρ = fun R => R (ρ.set i (.v d)) := (Eq.refl _).trans (Eq.refl _)
theorem g_tup {g : TGts} {R : Env → Prop} : vgTup n g (.tuple ds) ρ R = (ds.length = n ∧ g ds ρ R) := by
  unfold vgTup
  exact propext ⟨fun ⟨es, e, h⟩ => by injection e with e; rw [e]; exact h, fun h => ⟨ds, rfl, h⟩⟩
theorem g_nil {R : Env → Prop} : vgNil [] ρ R = R ρ := by
  unfold vgNil
  exact propext ⟨fun h => h.2, fun h => ⟨rfl, h⟩⟩
theorem g_cons {g : TGt} {gs : TGts} {R : Env → Prop} : vgCons g gs (d :: ds) ρ R = g d ρ fun ρ' => gs ds ρ' R := by
  unfold vgCons
  refine propext ⟨fun ⟨a, b, e, h⟩ => ?_, fun h => ⟨d, ds, rfl, h⟩⟩
  simp only [List.cons.injEq] at e
  rw [e.1, e.2]; exact h
theorem r_1 {R : List PyData → Prop} {k : Int} : vRng1 (fun _ P => P [.v (.int k)]) ρ R = (k < 2 ^ 62 ∧ -(2 ^ 62) ≤ k ∧ R ((List.range k.toNat).map fun (i : Nat) => PyData.int (0 + (i : Int)))) := by
  unfold vRng1
  refine propext ⟨fun ⟨m, e, h⟩ => ?_, fun h => ⟨k, rfl, h⟩⟩
  simp only [List.cons.injEq, SV.v.injEq, PyData.int.injEq, and_true] at e
  rw [e]; exact h
end
/-- the law's end: from its meaning at the script -/
theorem law_want {K : PySem.W.Frag} {κ : Nat} {t : TF} (hκ : κ ≤ LIM) (h : ∀ ns : List Int, ns.length ≤ 63 → t [.scr ns] fun s => s = .v (.bool true)) (H : Hp) (a : Addr) (ns : List Int) (hl : ns.length ≤ 63) (hO : Only H) (hS : SqL K H a (ns.map V.int)) :
    spOf K 1 κ t [.ref a] H (fun v _ => v = .bl true) fun _ _ _ => False := by
  have sc : ScrL K H a ns := by
    intro H' k
    rcases hS with (q | ⟨o, q⟩) | q
    · rcases hO a with z | ⟨o, xs, z⟩
      · rw [z] at q; cases q
      · rw [z] at q; cases q
    · exact .inl (.inr ⟨o, k _ _ _ q⟩)
    · exact .inr q
  refine ⟨rfl, ⟨fun _ => False, 0⟩, [.scr ns], fun s => s = .v (.bool true), fun _ z => z.elim, ⟨⟨a, rfl, sc⟩, trivial⟩, fun s hs => ?_, by show 0 + κ ≤ LIM; omega, h ns hl, fun s u F' H' _ q _ r => ?_⟩
  · rw [List.mem_singleton.mp hs]
    exact ⟨(fun _ _ z => nomatch z), (fun _ _ z => nomatch z)⟩
  · subst q
    exact bool_of r.sr
theorem fund_mk {K : PySem.W.Frag} {x qual : Str} {st : Stmt} {kws : List (Str × V)} {f : Addr} {oc : Value} {od an : Option Addr} {osl : Array (Option Value)} {kV doc pm cdv ct : Value}
    (l : K.lookup f = some ⟨oc, od, .func (PySem.W.fnOf x qual (defArgs st) (defBody st) (defScope st) .none kV doc pm an cdv ct), osl⟩) (c : PySem.W.codeIn K cdv qual = true) (k : PySem.W.keepIn K (.ref f) = true) (hk : KwdV K kV kws) :
    FunD K x qual (defArgs st) (defBody st) (defScope st) [] kws f (PySem.W.fnOf x qual (defArgs st) (defBody st) (defScope st) .none kV doc pm an cdv ct) :=
  ⟨⟨oc, od, .none, kV, doc, pm, an, cdv, ct, osl, rfl, l, c, .inl ⟨rfl, rfl⟩, hk⟩, k⟩
theorem kt_tup {K : PySem.W.Frag} {F : FS} {H : Hp} {a : Addr} {o : Obj} {its : List Value} {n : Nat} {us : List V} {ds : List PyData} (l : K.lookup a = some o) (c : o.cls = .type "tuple") (nd : o.dict = none) (d : o.data = .seq its.toArray n) (hz : its.length ≤ 1000)
    (r : Vals us its) (h : RA K F H us ds) : R1 K F H (.ref a) (.tuple ds) :=
  .tup (.inr ⟨o, its.toArray, n, l, c, nd, d, by rw [List.size_toArray]; exact Nat.le_trans hz (by decide), by simpa using r⟩) h
end VL
namespace VL
open PySem PySem.Spec PyProof.Rows L2 VG
theorem divOk {i j : Int} (h : 0 < j) (h2 : j < 18446744073709551616) : CDivW i j := wide_div (b := 64) h (by omega) (by decide) (by decide)
theorem lay_ints : ∀ ns : List Int, PyData.canLayAll0 (ns.map PyData.int) = true
  | [] => rfl
  | n :: ns => by simp only [List.map_cons, PyData.canLayAll0, PyData.canLay0, lay_ints ns, Bool.and_self]
theorem depth_ints : ∀ ns : List Int, PyData.depthAll (ns.map PyData.int) = 0
  | [] => by simp [PyData.depthAll]
  | n :: ns => by simp [PyData.depthAll, PyData.depth, depth_ints ns]
theorem shaped_ints (ns : List Int) : SeqAt.shaped (.list (ns.map PyData.int)) = true := by
  show (PyData.canLay0 (.list (ns.map PyData.int)) && decide (PyData.depth (.list (ns.map PyData.int)) ≤ 64)) = true
  simp only [PyData.canLay0, lay_ints, PyData.depth, depth_ints]
  decide
theorem m_cellsNe {ns : List Int} {Q : SV → Prop} : fEq true (.v (.list (ns.map .int))) (.own []) Q = Q (.v (.bool (!ns.isEmpty))) := by
  have h1 := shaped_ints ns
  have h2 : SeqAt.shaped (.list []) = true := by decide
  have h3 : PyData.eqv (.list (ns.map PyData.int)) (.list []) = ns.isEmpty := by cases ns <;> rfl
  rw [m_eq (d := .list (ns.map PyData.int)) (e := .list []) rfl rfl]
  show (SeqAt.shaped (.list (ns.map PyData.int)) = true ∧ SeqAt.shaped (.list []) = true ∧ Q (.v (.bool (!PyData.eqv (.list (ns.map PyData.int)) (.list []))))) = _
  rw [h3]
  exact propext ⟨fun h => h.2.2, fun h => ⟨h1, h2, h⟩⟩
theorem ixN_of {n : Nat} {i : Int} (h0 : 0 ≤ i) (h1 : i < n) : ixN n i = some i.toNat := by
  unfold ixN
  rw [if_pos h0, if_pos h1]
theorem atI_of {α : Type} {xs : List α} {i : Int} (h0 : 0 ≤ i) (h1 : i < xs.length) : ∃ x, atI xs i = some x ∧ xs[i.toNat]? = some x := by
  have hl : i.toNat < xs.length := by omega
  refine ⟨xs[i.toNat], ?_, List.getElem?_eq_getElem hl⟩
  unfold atI
  rw [ixN_of h0 h1]
  exact List.getElem?_eq_getElem hl
/-- a cell of the feed is an int -/
theorem cell_int {ns : List Int} {i : Int} {R : PyData → Prop} (h0 : 0 < ns.length) (h : ∀ c : Int, R (.int c)) : ∃ d, atI (ns.map PyData.int) (i % (ns.map PyData.int).length) = some d ∧ R d := by
  have hl : (ns.map PyData.int).length = ns.length := List.length_map ..
  obtain ⟨x, e1, e2⟩ := atI_of (xs := ns.map PyData.int) (i := i % (ns.map PyData.int).length) (Int.emod_nonneg _ (by omega)) (Int.emod_lt_of_pos _ (by omega))
  refine ⟨x, e1, ?_⟩
  rw [List.getElem?_map] at e2
  rcases e3 : ns[(i % ((ns.map PyData.int).length : Int)).toNat]? with _ | c
  · rw [e3] at e2; cases e2
  · rw [e3] at e2
    cases e2
    exact h c
/-- a menu: each of its items will do -/
theorem pick {ds : List PyData} {i : Int} {R : PyData → Prop} (h0 : 0 ≤ i) (h1 : i < ds.length) (h : ∀ d ∈ ds, R d) : ∃ d, atI ds i = some d ∧ R d := by
  obtain ⟨x, e1, e2⟩ := atI_of h0 h1
  exact ⟨x, e1, h x (List.mem_of_getElem? e2)⟩
theorem pick_at {ds : List PyData} {k : Nat} {d : PyData} {R : PyData → Prop} (e : ds[k]? = some d) (h : R d) : ∃ d, atI ds (k : Int) = some d ∧ R d := ⟨d, atI_nat e, h⟩
end VL
namespace VL
open PySem PySem.Spec PyProof.Rows L2 VG
mutual
/-- no less than its text's length -/
def wt : PyData → Nat
  | .none => 4
  | .bool _ => 5
  | .int _ => 1921
  | .str x => (reprText x).length
  | .list xs => wtAll xs + 3
  | .tuple xs => wtAll xs + 3
  | .dict _ => 0
def wtAll : List PyData → Nat
  | [] => 0
  | x :: xs => wt x + 2 + wtAll xs
end
def lens : List Str → Nat
  | [] => 0
  | x :: xs => x.length + 2 + lens xs
theorem slen_append (x y : Str) : (x ++ y).length = x.length + y.length := strLen_append x y
theorem textFrom_le : ∀ (ts : List Str) (k : Nat) (acc : Str), (textFrom k acc ts).length ≤ acc.length + lens ts
  | [], k, acc => Nat.le_add_right _ _
  | t :: ts, k, acc => by
    have h := textFrom_le ts (k + 1) (acc ++ (if k > 0 then ", " else "" : String) ++ t)
    have e : (((if k > 0 then ", " else "" : String) : Str)).length ≤ 2 := by split <;> decide
    rw [slen_append, slen_append] at h
    show (textFrom (k + 1) _ ts).length ≤ acc.length + (t.length + 2 + lens ts)
    omega
theorem listText_le (ts : List Str) : (listText ts).length ≤ lens ts + 3 := by
  unfold listText
  have h := textFrom_le ts 0 "["
  have e1 : (("[" : String) : Str).length = 1 := rfl
  have e2 : (("]" : String) : Str).length = 1 := rfl
  rw [slen_append, e2]
  rw [e1] at h
  omega
theorem join_le : ∀ ts : List Str, (Str.join ", " ts).length ≤ lens ts
  | [] => Nat.zero_le _
  | [x] => by show x.length ≤ x.length + 2 + 0; omega
  | x :: y :: r => by
    have ih := join_le (y :: r)
    show (x ++ ", " ++ Str.join ", " (y :: r)).length ≤ x.length + 2 + lens (y :: r)
    have e : ((", " : String) : Str).length = 2 := rfl
    rw [slen_append, slen_append, e]
    omega
theorem tupleText_le (ts : List Str) : (tupleText ts).length ≤ lens ts + 3 := by
  unfold tupleText
  have h := join_le ts
  have e1 : (("(" : String) : Str).length = 1 := rfl
  have e2 : (((if ts.length == 1 then ",)" else ")" : String) : Str)).length ≤ 2 := by split <;> decide
  rw [slen_append, slen_append, e1]
  omega
mutual
theorem shown_le : ∀ d : PyData, d.showable = true → d.hasDict = false → d.shown.length ≤ wt d
  | .none, _, _ => by decide
  | .bool b, _, _ => by cases b <;> decide
  | .int i, h, _ => by
    have h' : i.natAbs.log2 < 1920 := by simpa [PyData.showable] using h
    exact int_text_len_1921 h'
  | .str x, _, _ => Nat.le_refl _
  | .list xs, h, h2 => Nat.le_trans (listText_le _) (Nat.add_le_add_right (shownAll_le xs (by simpa [PyData.showable] using h) (by simpa [PyData.hasDict] using h2)) 3)
  | .tuple xs, h, h2 => Nat.le_trans (tupleText_le _) (Nat.add_le_add_right (shownAll_le xs (by simpa [PyData.showable] using h) (by simpa [PyData.hasDict] using h2)) 3)
  | .dict _, _, h => by simp [PyData.hasDict] at h
theorem shownAll_le : ∀ ds : List PyData, PyData.showableAll ds = true → PyData.hasDictAll ds = false → lens (PyData.shownAll ds) ≤ wtAll ds
  | [], _, _ => Nat.le_refl _
  | d :: ds, h, h2 => by
    simp only [PyData.showableAll, Bool.and_eq_true] at h
    simp only [PyData.hasDictAll, Bool.or_eq_false_iff] at h2
    have a := shown_le d h.1 h2.1
    have b := shownAll_le ds h.2 h2.2
    show (PyData.shown d).length + 2 + lens (PyData.shownAll ds) ≤ wt d + 2 + wtAll ds
    omega
end
theorem shw_of {d : PyData} (h1 : d.showable = true) (h2 : d.hasDict = false) (h3 : d.depth ≤ 64) (h4 : wt d ≤ 16000000) : Shw d :=
  ⟨h1, h2, h3, Nat.le_trans (shown_le d h1 h2) (Nat.le_trans h4 (by decide))⟩
theorem showI {i : Int} (h : i.natAbs < 2 ^ 1900) : PyData.showable (.int i) = true := by
  have := PySem.Flt.log2_lt_of (n := i.natAbs) (k := 1900) (by decide) h
  simp only [PyData.showable, decide_eq_true_eq]
  omega
end VL
namespace VL
open PySem PySem.Spec PyProof.Rows L2 VG

/-! ### isinstance(e, T) -/
def tyName : PyData → String
  | .none => "NoneType"
  | .bool _ => "bool"
  | .int _ => "int"
  | .str _ => "str"
  | .list _ => "list"
  | .tuple _ => "tuple"
  | .dict _ => "dict"
def isT (T : String) (d : PyData) : Bool := tyName d == T || (tyName d == "bool" && T == "int")
theorem ty_of {K : PySem.W.Frag} {H : Hp} {u : V} {d : PyData} (h : Sh K H u d) : TyX K H u (.type (tyName d)) := by
  cases h with
  | non => exact .base .non
  | bl b => exact .base (.bl b)
  | int i => exact .base (.int i)
  | str x => exact .base (.str x)
  | lst a =>
    rcases a with (e | ⟨o, e⟩) | ⟨o, its, n, e, c, _⟩
    · exact .base (.lst e)
    · exact .base (.frz e)
    · exact .kList e c
  | dic a => exact .base (.dK a)
  | tup a =>
    rcases a with (e | ⟨o, e⟩) | ⟨o, its, n, e, c, _⟩
    · exact .base (.tup e)
    · exact .fTuple e
    · exact .kTuple e c
/-- the answers for these classes -/
def TyOk (T : String) : Prop := ∀ n ∈ ["NoneType", "bool", "int", "str", "list", "tuple", "dict"], kitB n T = some (n == T || (n == "bool" && T == "int"))
theorem tok_int : TyOk "int" := by unfold TyOk; decide +kernel
theorem tok_bool : TyOk "bool" := by unfold TyOk; decide +kernel
theorem tok_str : TyOk "str" := by unfold TyOk; decide +kernel
theorem tok_list : TyOk "list" := by unfold TyOk; decide +kernel
theorem tok_tuple : TyOk "tuple" := by unfold TyOk; decide +kernel
def vIsi (T : String) (t : TV) : TV := fun ρ Q => t ρ fun s => ∃ d, s.asD = some d ∧ Q (.v (.bool (isT T d)))
section
variable {X : Cx} {e f c : Expr} {t : TV}
theorem ve_isi {κ1 : Nat} {T : String} (h : ∀ te, PE X e te → PE X f (tCB (rIsi X.K) (tCons te (tCons (tC (.ty T)) tNil)))) (hT : TyOk T) (hc : ClsV (.ty T) (.type T)) (he : VE X e t κ1) : VE X f (vIsi T t) κ1 := by
  obtain ⟨te, pe, g⟩ := he
  refine ⟨_, h te pe, fun B F H σ ρ Q R er bq t k => ?_⟩
  refine g B F H σ ρ _ _ er (by omega) t fun s u F' H' cq ⟨d, e1, q⟩ x => ?_
  have dp := asD_sh x.sr e1
  have e2 : kitB (tyName d) T = some (isT T d) := by
    refine hT _ ?_
    cases dp <;> simp [tyName]
  exact ⟨u, .ty T, .type (tyName d), .type T, isT T d, rfl, hc, ty_of dp, kit_ty e2, k _ _ F' H' (by omega) q ⟨x.toExt, .bl _, trivial⟩⟩
end

/-! ### t[::-1] -/
theorem rev_places (n : Nat) : Builtin.Slice.sliceAdjust none none (-1) (n : Int) = ((n : Int) - 1, -1) ∧ Builtin.Slice.slicePlaces ((n : Int) - 1) (-1) (-1) = n := by
  constructor
  · simp [Builtin.Slice.sliceAdjust]
  · simp [Builtin.Slice.slicePlaces]
    omega
theorem fm_congr {α β : Type} {f g : α → Option β} : ∀ {l : List α}, (∀ m ∈ l, f m = g m) → l.filterMap f = l.filterMap g
  | [], _ => rfl
  | a :: l, h => by
    rw [List.filterMap_cons, List.filterMap_cons, h a (by simp), fm_congr fun m hm => h m (by simp [hm])]
theorem rev_pick (xs : Array Value) : ((List.range xs.size).filterMap fun (m : Nat) => xs[(((xs.size : Int) - 1) + (m : Int) * (-1)).toNat]?) = xs.toList.reverse := by
  have e : (List.range xs.size).filterMap (fun (m : Nat) => xs[(((xs.size : Int) - 1) + (m : Int) * (-1)).toNat]?) = ((List.range xs.size).map fun k => xs.size - 1 - k).filterMap (xs[·]?) := by
    rw [List.filterMap_map]
    refine fm_congr fun m hm => ?_
    have := List.mem_range.mp hm
    show xs[(((xs.size : Int) - 1) + (m : Int) * (-1)).toNat]? = xs[xs.size - 1 - m]?
    congr 1
    omega
  rw [e, PySem.W.krv_range, List.filterMap_reverse, PySem.W.krv_all]
section
variable {prog : Program} {w : World} {A : Around} {E : Value → Shared → Prop} {s : Shared}
theorem rev_applied {sl : Addr} {vl vu vs : Value} {n : Nat} {Q : Int × Int × Nat → Shared → Prop} (hs : s.heap.IsSliceOf sl vl vu vs) (pl : IsPart vl none) (pu : IsPart vu none) (ps : IsPart vs (some (-1)))
    (h : Q ((n : Int) - 1, -1, n) s) : wpAny (model prog w) A (Builtin.Slice.sliceApplied (.ref sl) (pure (n : Int))) Q E s := by
  obtain ⟨os, hos, hcs, hds⟩ := id hs
  have e := rev_places n
  unfold Builtin.Slice.sliceApplied Builtin.Slice.sliceFields
  refine wpAny_bind (wpAny_bind (wpAny_field hos hds (x := vl) rfl (wpAny_bind (wpAny_field hos hds (x := vu) rfl (wpAny_bind
    (wpAny_field hos hds (x := vs) rfl (wpAny_pure ?_)))))))
  refine wpAny_bind (HT.slicePart_ ps ?_)
  show wpAny _ _ (if ((-1 : Int) == 0) = true then _ else _) _ _ s
  rw [if_neg (by decide)]
  refine wpAny_bind (HT.slicePart_ pl (wpAny_bind (HT.slicePart_ pu (wpAny_bind (wpAny_pure ?_)))))
  show wpAny _ _ (match Builtin.Slice.sliceAdjust none none (-1) (n : Int) with | (lo, hi) => pure (lo, (-1 : Int), Builtin.Slice.slicePlaces lo hi (-1))) _ _ s
  rw [e.1]
  show wpAny _ _ (pure ((n : Int) - 1, (-1 : Int), Builtin.Slice.slicePlaces ((n : Int) - 1) (-1) (-1))) _ _ s
  rw [e.2]
  exact wpAny_pure h
theorem getItem_rev {t sl : Addr} {items : Array Value} {vl vu vs : Value} {Q : Value → Shared → Prop} (tp : IsTup s.heap t items) (hs : s.heap.IsSliceOf sl vl vu vs) (pl : IsPart vl none) (pu : IsPart vu none) (ps : IsPart vs (some (-1)))
    (h : Q (.ref s.heap.objs.size) { s with heap := s.heap.push { cls := .type "tuple", data := .seq items.toList.reverse.toArray } }) (hz : items.size ≤ sizeLine) : wpAny (model prog w) A (getItem (.ref t) (.ref sl)) Q E s := by
  have fits : sizeOk (.seq items.toList.reverse.toArray) := by
    show items.toList.reverse.toArray.size ≤ sizeLine
    simpa using hz
  obtain ⟨os, hos, hcs, hds⟩ := id hs
  have ts : s.TypeIs (.ref sl) "slice" := ⟨os, hos, hcs⟩
  unfold getItem
  try with_reducible refine wpAny_holding ?_
  first | refine wpAny_bind (wpAny_pure ?_) | skip
  refine wpAny_bind (wpAny_sequenceKey tp.typeIs (by decide) ?_)
  refine wpAny_bind (wpAny_callSpecial?_slot (name := Str.ofString "__getitem__") tp.typeIs PyProof.Rows.slot_tuple_getitem (wpAny_call_entry PyProof.Rows.slot_tuple_getitem tp.typeIs PyProof.Rows.entry_tuple_getitem ?_ (PyProof.Rows.args_tuple_getitem _ _)))
  show wpAny _ _ (Builtin.Tuple.tupleItemsOf (.ref t) >>= _) _ _ s
  refine wpAny_bind (PyProof.Rows.tupleItemsOf_ tp ?_)
  refine wpAny_bind (wpAny_typeOf ts ?_)
  rw [if_pos (by decide)]
  refine wpAny_bind (rev_applied hs pl pu ps ?_)
  have no : ¬ ((((items.size : Int) - 1) == 0 && (-1 : Int) == 1 && items.size == items.size) = true) := by simp
  show wpAny _ _ (if (((items.size : Int) - 1) == 0 && (-1 : Int) == 1 && items.size == items.size) = true then _ else _) _ _ s
  rw [if_neg no, rev_pick]
  first
    | exact wpAny_bind (m := Builtin.Tuple.tupleExact _) (wpAny_newObj_type (wpAny_pure ⟨_, rfl, wpAny_pure h⟩) fits)
    | exact wpAny_bind (m := Builtin.Tuple.tupleExact _) (wpAny_newObj_type (wpAny_bind (wpAny_pure (wpAny_pure ⟨_, rfl, wpAny_pure h⟩))) fits)
    | exact wpAny_bind (wpAny_bind (m := Builtin.Tuple.tupleExact _) (wpAny_newObj_type (wpAny_pure (wpAny_pure ⟨_, rfl, wpAny_pure h⟩)) fits))
    | exact wpAny_bind (wpAny_bind (m := Builtin.Tuple.tupleExact _) (wpAny_newObj_type (wpAny_pure ⟨_, rfl, wpAny_pure h⟩) fits))
end
section
variable {X : Cx} {e : Expr} {t : TV}
/-- e[::-1], of a list or a tuple -/
def tRevA (K : PySem.W.Frag) (te : TE) : TE := fun σ H Q => te σ H fun x H1 => ∃ a xs, x = .ref a ∧ SqT K H1 a xs ∧ NewT H1 xs.reverse Q
theorem pe_revT {te : TE} {k : Nat} {p1 p2 p3 pos : Pos} (he : PE X e te) : PE X (.Subscript e (.Slice none none (some (.UnaryOp .USub (.Constant (.int 1) k p1) p2)) p3) pos) (tRevA X.K te) := by
  refine ⟨fun pins s σ H Q I h => Subscript_ (thn (he.run pins s σ H _ I h) fun v s1 q1 => ?_)⟩
  obtain ⟨x, H1, I1, r1, a, xs, rfl, hx, q⟩ := q1
  cases r1
  have step : PO X (some (.UnaryOp .USub (.Constant (.int 1) k p1) p2)) (tPart (tUn (rU fun i => .int (-i)) (tC (.int 1)))) := po_some (pe_un un_neg pe_int)
  refine wpAny_Slice (thn (po_none.run pins s1 σ H1 (fun o H2 => o = none ∧ H2 = H1) I1 ⟨rfl, rfl⟩) fun vl s2 z1 => ?_)
  obtain ⟨_, _, I2, pl, rfl, rfl⟩ := z1
  refine thn (po_none.run pins s2 σ _ (fun o H3 => o = none ∧ H3 = _) I2 ⟨rfl, rfl⟩) fun vu s3 z2 => ?_
  obtain ⟨_, _, I3, pu, rfl, rfl⟩ := z2
  refine thn (step.run pins s3 σ _ (fun o H4 => o = some (-1) ∧ H4 = _) I3 ⟨1, rfl, -1, rfl, rfl, rfl⟩) fun vs s4 z3 => ?_
  obtain ⟨_, _, I4, ps, rfl, rfl⟩ := z3
  have I5 : Inv X pins σ _ { s4 with heap := s4.heap.push { cls := .type "slice", data := .fields #[vl, vu, vs] } } := I4.kept (t' := s4.toks) fun b ob q => Heap.get?_push_of_some _ q
  obtain ⟨its, r, tp, hz⟩ := I5.tuple hx
  show wpAny (model X.prog X.w) X.A (subscriptTail e (.Slice none none (some (.UnaryOp .USub (.Constant (.int 1) k p1) p2)) p3) (.ref a) (.ref s4.heap.objs.size)) (EP X pins σ Q) X.xe _
  refine tail_any (ops := [.ref a, .ref s4.heap.objs.size]) tp.typeIs PyProof.Rows.slot_tuple_getitem.lookup ?_ (by with_unfolding_all rfl)
  refine getItem_rev tp (Heap.IsSliceOf.new _ vl vu vs) pl pu ps ?_ (by rw [List.size_toArray, ← r.length]; exact hz)
  exact ep_tup I5 (by rw [List.length_reverse]; exact hz) r.reverse q
theorem RA.reverse {K : PySem.W.Frag} {F : FS} {H : Hp} : ∀ {us : List V} {ds : List PyData}, RA K F H us ds → RA K F H us.reverse ds.reverse
  | _, _, .nil => .nil
  | _, _, .cons a b => by
    rw [List.reverse_cons, List.reverse_cons]
    exact RA.append (RA.reverse b) (RA.one a)
def vRevT (t : TV) : TV := fun ρ Q => t ρ fun s => ∃ ds, s.asT = some ds ∧ Q (.v (.tuple ds.reverse))
theorem ve_revT {κ1 : Nat} {k : Nat} {p1 p2 p3 pos : Pos} (he : VE X e t κ1) : VE X (.Subscript e (.Slice none none (some (.UnaryOp .USub (.Constant (.int 1) k p1) p2)) p3) pos) (vRevT t) κ1 := by
  obtain ⟨te, pe, g⟩ := he
  refine ⟨_, pe_revT pe, fun B F H σ ρ Q R er bq t k => ?_⟩
  refine g B F H σ ρ _ _ er (by omega) t fun s u F' H' cq ⟨ds, e1, q⟩ x => ?_
  obtain ⟨a, xs, rfl, sq, r⟩ := asT_sq x.sr e1
  exact ⟨a, xs, rfl, sq.t, fun p o nd hp => k _ _ _ _ (by omega) q ((PRes.newT x.dm nd hp (RA.reverse r)).res x.toExt fun _ _ z => nomatch z)⟩
end
/-! ### text * n, list * n, tuple * n -/
section
variable {K : PySem.W.Frag}
abbrev rStrRep : R2 := fun x y H Q => ∃ z i, x = .str z ∧ y = .int i ∧ MulOk z i ∧ Q (.str (Txt.mul z i)) H
theorem op_strRep {X : Cx} : OpR X (binaryOp .Mult) rStrRep := by
  intro pins s σ H x y v u Q I rx ry h
  obtain ⟨z, i, rfl, rfl, c, q⟩ := h
  obtain ⟨t, rfl⟩ := rx
  obtain ⟨t', rfl⟩ := ry
  exact SB.mul c fun t' k => ⟨.str _, H, I.tok _, ⟨_, rfl⟩, q⟩
abbrev rMulAll (K : PySem.W.Frag) : R2 := r2or rMulA (r2or rStrRep (r2or rRep (rRepN K)))
theorem op_mulAll {X : Cx} : OpR X (binaryOp .Mult) (rMulAll X.K) := op_mulA.or (op_strRep.or (op_rep.or op_repN))
def fMulAll : FB := fun a b Q => match a, b with
  | .v (.int i), .v (.int j) => CMulA i j ∧ Q (.v (.int (i * j)))
  | .v (.str z), .v (.int i) => MulOk z i ∧ Q (.v (.str (Txt.mul z i)))
  | .v (.tuple ds), .v (.int i) => ds ≠ [] ∧ 2 ≤ i ∧ i ≤ 1000 ∧ ds.length ≤ 1000 ∧ Q (.v (.tuple (List.replicate i.toNat ds).flatten))
  | a, .v (.int i) => ∃ ds, a.asW = some ds ∧ -(2 ^ 63) ≤ i ∧ i < 2 ^ 63 ∧ ds.length * i.toNat ≤ sizeLine ∧ Q (.own (List.replicate i.toNat ds).flatten)
  | _, _ => False
theorem ops_mulAll : OpS K (rMulAll K) fMulAll := by
  intro F H u w a b Q R fo ra rb q k
  have lists : ∀ i : Int, b = .v (.int i) → (∃ ds, a.asW = some ds ∧ -(2 ^ 63) ≤ i ∧ i < 2 ^ 63 ∧ ds.length * i.toNat ≤ sizeLine ∧ Q (.own (List.replicate i.toNat ds).flatten)) → rMulAll K u w H R := by
    rintro i rfl ⟨ds, e1, h1, h2, h3, q⟩
    obtain ⟨p, us, rfl, e, r⟩ := asW_at ra e1
    exact .inr (.inr (.inl ⟨p, i, us, rfl, int_of rb, e, h1, h2, by rw [r.len]; exact h3, fun l hl => k _ _ _ _ q (fun _ _ z => nomatch z) (.newL fo hl (r.rep _))⟩))
  unfold fMulAll at q
  split at q
  · rename_i i j
    rw [int_of ra, int_of rb]
    have q2 := k _ _ F H q.2 (fun _ _ z => nomatch z) (.same fo (.int _))
    exact .inl (q.1.imp (fun c => ⟨i, j, rfl, rfl, c, q2⟩) fun c => ⟨i, j, rfl, rfl, c, q2⟩)
  · rename_i z i
    rw [str_of ra, int_of rb]
    exact .inr (.inl ⟨z, i, rfl, rfl, q.1, k _ _ F H q.2 (fun _ _ z => nomatch z) (.same fo (.str _))⟩)
  · rename_i ds i
    obtain ⟨h0, h1, h2, h3, q⟩ := q
    obtain ⟨p, us, rfl, e, r⟩ := asT_sq (ds := ds) ra rfl
    refine .inr (.inr (.inr ⟨p, i, us, rfl, int_of rb, e.t, fun z => h0 ?_, h1, h2, by rw [r.len]; exact h3, fun l o nd hl => k _ _ _ _ q (fun _ _ z => nomatch z) (.newT fo nd hl (r.rep _))⟩))
    subst z
    exact List.eq_nil_of_length_eq_zero r.len.symm
  · rename_i i _ _ _
    exact lists i rfl q
  · exact q.elim
end
/-! ### int(..), all(..) -/
section
variable {K : PySem.W.Frag}
abbrev rInt1 : List V → Hp → L2.VK → Prop := fun xs H Q => (∃ i, xs = [.int i] ∧ Q (.int i) H) ∨ ∃ k, xs = [.bl k] ∧ Q (.int (if k then 1 else 0)) H
def fInt : FC := fun ss Q => (∃ i, ss = [.v (.int i)] ∧ Q (.v (.int i))) ∨ ∃ b, ss = [.v (.bool b)] ∧ Q (.v (.int (if b then 1 else 0)))
theorem cs_int : CallS K rInt1 fInt := by
  intro F H us ss Q R fo al q k
  rcases q with ⟨i, e, q⟩ | ⟨b, e, q⟩
  · subst e
    obtain ⟨u, rfl, h⟩ := ah1 al
    rw [int_of h]
    exact .inl ⟨i, rfl, k _ _ F H q (fun _ _ z => nomatch z) (.same fo (.int _))⟩
  · subst e
    obtain ⟨u, rfl, h⟩ := ah1 al
    rw [bool_of h]
    exact .inr ⟨b, rfl, k _ _ F H q (fun _ _ z => nomatch z) (.same fo (.int _))⟩
theorem data_bools {F : FS} {H : Hp} : ∀ {us : List V} {bs : List Bool}, RA K F H us (bs.map PyData.bool) → us = bs.map V.bl
  | [], [], _ => rfl
  | _ :: _, [], h => by cases h
  | [], _ :: _, h => by cases h
  | u :: us, b :: bs, h => by
    cases h with
    | cons a c =>
      cases a with
      | bl b => rw [data_bools c]; rfl
def fAll : FC := fun ss Q => ∃ (s : SV) (bs : List Bool), ss = [s] ∧ s.asL = some (bs.map PyData.bool) ∧ Q (.v (.bool (bs.all id)))
theorem cs_all : CallS K (rAll K) fAll := by
  intro F H us ss Q R fo al ⟨s, bs, e, e1, q⟩ k
  subst e
  obtain ⟨u, rfl, h⟩ := ah1 al
  obtain ⟨a, xs, rfl, sq, r⟩ := asL_sq h e1
  rw [data_bools r] at sq
  exact ⟨a, bs, rfl, sq, k _ _ F H q (fun _ _ z => nomatch z) (.same fo (.bl _))⟩
end
theorem gok_false {P : Program} {w : World} {K : PySem.W.Frag} {mg : Str → Option Value} {base : Heap} {k n κ : Nat} {f : Addr} {fd : FuncData} {ps : List Str} (h : ps.length = n) : GOk P w K mg base CX0 k f fd ps (spOf K n κ fun _ _ => False) :=
  ⟨fun vs H Q E q => q.1.trans h.symm, fun A _ _ outer s H _ args us vs Q E _ _ q => by
    obtain ⟨_, F, ss, Qv, _, _, _, _, z, _⟩ := q
    exact z.elim⟩
section
variable {Q : SV → Prop} {d : PyData} {ds : List PyData} {T : String} {t : TV} {ρ : Env} {i : Int}
theorem m_isi : vIsi T t ρ Q = t ρ fun s => ∃ d, s.asD = some d ∧ Q (.v (.bool (isT T d))) := (Eq.refl _).trans (Eq.refl _)
theorem asD_v : SV.asD (.v d) = some d := (Eq.refl _).trans (Eq.refl _)
theorem asD_own : SV.asD (.own ds) = some (.list ds) := (Eq.refl _).trans (Eq.refl _)
theorem asD_brw : SV.asD (.brw ds) = some (.list ds) := (Eq.refl _).trans (Eq.refl _)
theorem m_revT : vRevT t ρ Q = t ρ fun s => ∃ ds, s.asT = some ds ∧ Q (.v (.tuple ds.reverse)) := (Eq.refl _).trans (Eq.refl _)
theorem asT_v : SV.asT (.v (.tuple ds)) = some ds := (Eq.refl _).trans (Eq.refl _)
theorem m_intI : fInt [.v (.int i)] Q = Q (.v (.int i)) := by simp [fInt]
theorem m_intB {b : Bool} : fInt [.v (.bool b)] Q = Q (.v (.int (if b then 1 else 0))) := by simp [fInt]
theorem m_mulS {z : Str} : fMulAll (.v (.str z)) (.v (.int i)) Q = (MulOk z i ∧ Q (.v (.str (Txt.mul z i)))) := (Eq.refl _).trans (Eq.refl _)
theorem m_addS {x y : Str} : fAdd (.v (.str x)) (.v (.str y)) Q = (x.length + y.length ≤ sizeLine ∧ Q (.v (.str (x ++ y)))) := (Eq.refl _).trans (Eq.refl _)
theorem m_addT {es : List PyData} : fAdd (.v (.tuple ds)) (.v (.tuple es)) Q = (ds.length + es.length ≤ sizeLine ∧ Q (.v (.tuple (ds ++ es)))) := (Eq.refl _).trans (Eq.refl _)
theorem m_addLO {es : List PyData} : fAdd (.v (.list ds)) (.own es) Q = (ds.length + es.length ≤ sizeLine ∧ Q (.own (ds ++ es))) := by simp [fAdd, SV.asW]
theorem m_addBO {es : List PyData} : fAdd (.brw ds) (.own es) Q = (ds.length + es.length ≤ sizeLine ∧ Q (.own (ds ++ es))) := by simp [fAdd, SV.asW]
theorem m_addOO {es : List PyData} : fAdd (.own ds) (.own es) Q = (ds.length + es.length ≤ sizeLine ∧ Q (.own (ds ++ es))) := by simp [fAdd, SV.asW]
theorem m_addLL {es : List PyData} : fAdd (.v (.list ds)) (.v (.list es)) Q = (ds.length + es.length ≤ sizeLine ∧ Q (.own (ds ++ es))) := by simp [fAdd, SV.asW]
theorem m_addOL {es : List PyData} : fAdd (.own ds) (.v (.list es)) Q = (ds.length + es.length ≤ sizeLine ∧ Q (.own (ds ++ es))) := by simp [fAdd, SV.asW]
theorem m_addOB {es : List PyData} : fAdd (.own ds) (.brw es) Q = (ds.length + es.length ≤ sizeLine ∧ Q (.own (ds ++ es))) := by simp [fAdd, SV.asW]
theorem m_slT {tl th : TVo} : vSl t tl th ρ Q = t ρ fun s => tl ρ fun lo => th ρ fun hi => (∃ ds, s.asL = some ds ∧ Q (.own (VL.cutD ds lo hi))) ∨ (∃ ds, s.asT = some ds ∧ Q (.v (.tuple (VL.cutD ds lo hi)))) ∨ ∃ z : Str, s = .v (.str z) ∧ z.length ≤ sizeLine ∧ Q (.v (.str (cutS z lo hi))) := (Eq.refl _).trans (Eq.refl _)
theorem m_some : vSome t ρ = fun R => t ρ fun s => isI s fun i => R (some i) := (Eq.refl _).trans (Eq.refl _)
end
end VL
namespace VL
open PySem PySem.Spec PyProof.Rows L2 VG
def strG (x : Str) : Bool := x.cps.toList.all fun c => decide (c < 1114112)
mutual
/-- ints below 2 ^ b, plain signs, no dict -/
def chk (b : Nat) : PyData → Bool
  | .none => true
  | .bool _ => true
  | .int i => decide (i.natAbs < 2 ^ b)
  | .str x => strG x
  | .list xs => chkAll b xs
  | .tuple xs => chkAll b xs
  | .dict _ => false
def chkAll (b : Nat) : List PyData → Bool
  | [] => true
  | x :: xs => chk b x && chkAll b xs
end
mutual
def sz : PyData → Nat
  | .none => 1
  | .bool _ => 1
  | .int _ => 1
  | .str x => x.length + 1
  | .list xs => szAll xs + 1
  | .tuple xs => szAll xs + 1
  | .dict _ => 1
def szAll : List PyData → Nat
  | [] => 0
  | x :: xs => sz x + szAll xs
end
theorem sz_pos : ∀ d : PyData, 0 < sz d
  | .none => Nat.one_pos
  | .bool _ => Nat.one_pos
  | .int _ => Nat.one_pos
  | .str x => Nat.succ_pos _
  | .list xs => Nat.succ_pos _
  | .tuple xs => Nat.succ_pos _
  | .dict _ => Nat.one_pos
mutual
theorem chk_facts : ∀ (d : PyData) {b : Nat}, b ≤ 1900 → chk b d = true → d.showable = true ∧ d.hasDict = false ∧ wt d ≤ 1930 * sz d
  | .none, _, _, _ => ⟨rfl, rfl, by decide⟩
  | .bool _, _, _, _ => ⟨rfl, rfl, by show 5 ≤ 1930 * 1; decide⟩
  | .int i, b, hb, h => by
    simp only [chk, decide_eq_true_eq] at h
    exact ⟨showI (Nat.lt_of_lt_of_le h (Nat.pow_le_pow_right (by decide) hb)), rfl, by show 1921 ≤ 1930 * 1; decide⟩
  | .str x, _, _, h => by
    simp only [chk, strG, List.all_eq_true, decide_eq_true_eq] at h
    have := PySem.StrLaws.reprText_len x fun c hc => Nat.lt_of_lt_of_le (h c hc) (by decide)
    refine ⟨rfl, rfl, ?_⟩
    show (reprText x).length ≤ 1930 * (x.length + 1)
    omega
  | .list xs, _, hb, h => by
    obtain ⟨h1, h2, h3⟩ := chkAll_facts xs hb h
    exact ⟨h1, h2, by show wtAll xs + 3 ≤ 1930 * (szAll xs + 1); omega⟩
  | .tuple xs, _, hb, h => by
    obtain ⟨h1, h2, h3⟩ := chkAll_facts xs hb h
    exact ⟨h1, h2, by show wtAll xs + 3 ≤ 1930 * (szAll xs + 1); omega⟩
  | .dict _, _, _, h => by cases h
theorem chkAll_facts : ∀ (ds : List PyData) {b : Nat}, b ≤ 1900 → chkAll b ds = true → PyData.showableAll ds = true ∧ PyData.hasDictAll ds = false ∧ wtAll ds ≤ 1930 * szAll ds
  | [], _, _, _ => ⟨rfl, rfl, Nat.le_refl _⟩
  | d :: ds, b, hb, h => by
    simp only [chkAll, Bool.and_eq_true] at h
    obtain ⟨a1, a2, a3⟩ := chk_facts d hb h.1
    obtain ⟨b1, b2, b3⟩ := chkAll_facts ds hb h.2
    refine ⟨by simp only [PyData.showableAll, a1, b1]; rfl, by simp only [PyData.hasDictAll, a2, b2]; rfl, ?_⟩
    have h3 : wt d + 2 ≤ 1930 * sz d := by
      cases d with
      | none => show 4 + 2 ≤ 1930 * 1; decide
      | bool _ => show 5 + 2 ≤ 1930 * 1; decide
      | int _ => show 1921 + 2 ≤ 1930 * 1; decide
      | str x =>
        have hc := h.1
        simp only [chk, strG, List.all_eq_true, decide_eq_true_eq] at hc
        have := PySem.StrLaws.reprText_len x fun c hc' => Nat.lt_of_lt_of_le (hc c hc') (by decide)
        show (reprText x).length + 2 ≤ 1930 * (x.length + 1)
        omega
      | list xs =>
        obtain ⟨_, _, q⟩ := chkAll_facts xs hb h.1
        show wtAll xs + 3 + 2 ≤ 1930 * (szAll xs + 1)
        omega
      | tuple xs =>
        obtain ⟨_, _, q⟩ := chkAll_facts xs hb h.1
        show wtAll xs + 3 + 2 ≤ 1930 * (szAll xs + 1)
        omega
      | dict _ => cases h.1
    show wt d + 2 + wtAll ds ≤ 1930 * (sz d + szAll ds)
    omega
end
/-- of bounded ints, size and depth -/
structure Gd (b c n : Nat) (d : PyData) : Prop where
  ck : chk b d = true
  sz : sz d ≤ c
  dp : d.depth ≤ n
structure GdA (b c n : Nat) (ds : List PyData) : Prop where
  ck : chkAll b ds = true
  sz : szAll ds ≤ c
  dp : PyData.depthAll ds ≤ n
theorem Gd.shw {b c n : Nat} {d : PyData} (g : Gd b c n d) (hb : b ≤ 1900) (hc : c ≤ 8000) (hn : n ≤ 64) : Shw d := by
  obtain ⟨h1, h2, h3⟩ := chk_facts d hb g.ck
  have h4 := g.sz
  exact shw_of h1 h2 (Nat.le_trans g.dp hn) (by omega)
mutual
theorem chk_mono {b b' : Nat} (h : b ≤ b') : ∀ d : PyData, chk b d = true → chk b' d = true
  | .none, _ => rfl
  | .bool _, _ => rfl
  | .int i, e => by
    simp only [chk, decide_eq_true_eq] at *
    exact Nat.lt_of_lt_of_le e (Nat.pow_le_pow_right (by decide) h)
  | .str x, e => e
  | .list xs, e => chkAll_mono h xs e
  | .tuple xs, e => chkAll_mono h xs e
  | .dict _, e => e
theorem chkAll_mono {b b' : Nat} (h : b ≤ b') : ∀ ds : List PyData, chkAll b ds = true → chkAll b' ds = true
  | [], _ => rfl
  | d :: ds, e => by
    simp only [chkAll, Bool.and_eq_true] at *
    exact ⟨chk_mono h d e.1, chkAll_mono h ds e.2⟩
end
theorem Gd.mono {b c n b' c' n' : Nat} {d : PyData} (g : Gd b c n d) (h1 : b ≤ b') (h2 : c ≤ c') (h3 : n ≤ n') : Gd b' c' n' d :=
  ⟨chk_mono h1 d g.ck, Nat.le_trans g.sz h2, Nat.le_trans g.dp h3⟩
theorem GdA.mono {b c n b' c' n' : Nat} {d : List PyData} (g : GdA b c n d) (h1 : b ≤ b') (h2 : c ≤ c') (h3 : n ≤ n') : GdA b' c' n' d :=
  ⟨chkAll_mono h1 d g.ck, Nat.le_trans g.sz h2, Nat.le_trans g.dp h3⟩
theorem chkAll_append {b : Nat} : ∀ {xs ys : List PyData}, chkAll b (xs ++ ys) = (chkAll b xs && chkAll b ys)
  | [], _ => rfl
  | x :: xs, ys => by simp only [List.cons_append, chkAll, chkAll_append (xs := xs), Bool.and_assoc]
theorem szAll_append : ∀ {xs ys : List PyData}, szAll (xs ++ ys) = szAll xs + szAll ys
  | [], ys => by simp [szAll]
  | x :: xs, ys => by simp only [List.cons_append, szAll, szAll_append (xs := xs)]; omega
theorem depthAll_append : ∀ {xs ys : List PyData}, PyData.depthAll (xs ++ ys) = max (PyData.depthAll xs) (PyData.depthAll ys)
  | [], ys => by simp [PyData.depthAll]
  | x :: xs, ys => by simp only [List.cons_append, PyData.depthAll, depthAll_append (xs := xs)]; omega
theorem GdA.append {b c n c' : Nat} {xs ys : List PyData} (g : GdA b c n xs) (h : GdA b c' n ys) : GdA b (c + c') n (xs ++ ys) :=
  ⟨by rw [chkAll_append, g.ck, h.ck]; rfl, by rw [szAll_append]; have := g.sz; have := h.sz; omega, by rw [depthAll_append]; have := g.dp; have := h.dp; omega⟩
theorem GdA.left {b c n : Nat} {xs ys : List PyData} (g : GdA b c n (xs ++ ys)) : GdA b c n xs := by
  have h1 := g.ck
  have h2 := g.sz
  have h3 := g.dp
  rw [chkAll_append, Bool.and_eq_true] at h1
  rw [szAll_append] at h2
  rw [depthAll_append] at h3
  exact ⟨h1.1, by omega, by omega⟩
theorem GdA.right {b c n : Nat} {xs ys : List PyData} (g : GdA b c n (xs ++ ys)) : GdA b c n ys := by
  have h1 := g.ck
  have h2 := g.sz
  have h3 := g.dp
  rw [chkAll_append, Bool.and_eq_true] at h1
  rw [szAll_append] at h2
  rw [depthAll_append] at h3
  exact ⟨h1.2, by omega, by omega⟩
theorem GdA.take {b c n : Nat} {xs : List PyData} (g : GdA b c n xs) (k : Nat) : GdA b c n (xs.take k) := by
  rw [← List.take_append_drop k xs] at g
  exact g.left
theorem GdA.drop {b c n : Nat} {xs : List PyData} (g : GdA b c n xs) (k : Nat) : GdA b c n (xs.drop k) := by
  rw [← List.take_append_drop k xs] at g
  exact g.right
theorem GdA.cut {b c n : Nat} {xs : List PyData} (g : GdA b c n xs) (lo hi : Option Int) : GdA b c n (VL.cutD xs lo hi) := (g.drop _).take _
theorem GdA.cons {b c n : Nat} {x : PyData} {xs : List PyData} (g : Gd b c n x) {c' : Nat} (h : GdA b c' n xs) : GdA b (c + c') n (x :: xs) := by
  refine ⟨?_, ?_, ?_⟩
  · simp only [chkAll, g.ck, h.ck]; rfl
  · have := g.sz; have := h.sz; simp only [szAll]; omega
  · have := g.dp; have := h.dp; simp only [PyData.depthAll]; omega
theorem GdA.nil {b n : Nat} : GdA b 0 n [] := ⟨rfl, Nat.le_refl _, by simp [PyData.depthAll]⟩
theorem GdA.one {b c n : Nat} {x : PyData} (g : Gd b c n x) : GdA b c n [x] := GdA.cons g GdA.nil
theorem GdA.get {b c n : Nat} {xs : List PyData} (g : GdA b c n xs) {i : Nat} {d : PyData} (e : xs[i]? = some d) : Gd b c n d := by
  have hl := (List.getElem?_eq_some_iff.mp e)
  obtain ⟨hl, e2⟩ := hl
  have h := g.drop i
  rw [List.drop_eq_getElem_cons hl, e2] at h
  have h1 := h.ck
  have h2 := h.sz
  have h3 := h.dp
  simp only [chkAll, Bool.and_eq_true] at h1
  simp only [szAll] at h2
  simp only [PyData.depthAll] at h3
  exact ⟨h1.1, by omega, by omega⟩
theorem GdA.reverse {b c n : Nat} : ∀ {xs : List PyData} {c : Nat}, GdA b c n xs → GdA b c n xs.reverse
  | [], _, g => g
  | x :: xs, c, g => by
    have h1 := g.ck
    have h2 := g.sz
    have h3 := g.dp
    simp only [chkAll, Bool.and_eq_true] at h1
    simp only [szAll] at h2
    simp only [PyData.depthAll] at h3
    rw [List.reverse_cons]
    have a : GdA b (szAll xs) n xs := ⟨h1.2, Nat.le_refl _, by omega⟩
    have o : Gd b (VL.sz x) n x := ⟨h1.1, Nat.le_refl _, by omega⟩
    exact ((GdA.reverse (c := szAll xs) a).append (GdA.one o)).mono (Nat.le_refl _) (by omega) (Nat.le_refl _)
theorem Gd.tup {b c n : Nat} {xs : List PyData} (g : GdA b c n xs) : Gd b (c + 1) (n + 1) (.tuple xs) :=
  ⟨g.ck, by have := g.sz; show szAll xs + 1 ≤ _; omega, by have := g.dp; simp only [PyData.depth]; omega⟩
theorem Gd.lst {b c n : Nat} {xs : List PyData} (g : GdA b c n xs) : Gd b (c + 1) (n + 1) (.list xs) :=
  ⟨g.ck, by have := g.sz; show szAll xs + 1 ≤ _; omega, by have := g.dp; simp only [PyData.depth]; omega⟩
theorem Gd.untup {b c n : Nat} {xs : List PyData} (g : Gd b c n (.tuple xs)) : GdA b (c - 1) (n - 1) xs ∧ 1 ≤ c ∧ 1 ≤ n := by
  have h1 : chkAll b xs = true := g.ck
  have h2 : szAll xs + 1 ≤ c := g.sz
  have h3 := g.dp
  simp only [PyData.depth] at h3
  exact ⟨⟨h1, by omega, by omega⟩, by omega, by omega⟩
theorem Gd.int {b n : Nat} {i : Int} (h : i.natAbs < 2 ^ b) : Gd b 1 n (.int i) := ⟨by simp only [chk, decide_eq_true_eq]; exact h, Nat.le_refl _, by simp [PyData.depth]⟩
theorem Gd.unint {b c n : Nat} {i : Int} (g : Gd b c n (.int i)) : i.natAbs < 2 ^ b := by
  have := g.ck
  simpa only [chk, decide_eq_true_eq] using this
theorem Gd.bool {b n : Nat} {x : Bool} : Gd b 1 n (.bool x) := ⟨rfl, Nat.le_refl _, by simp [PyData.depth]⟩
theorem Gd.none {b n : Nat} : Gd b 1 n .none := ⟨rfl, Nat.le_refl _, by simp [PyData.depth]⟩
theorem Gd.str {b n : Nat} {x : Str} (h : strG x = true) : Gd b (x.length + 1) n (.str x) := ⟨h, Nat.le_refl _, by simp [PyData.depth]⟩
end VL
namespace VL
open PySem PySem.Spec PyProof.Rows L2 VG
/-! ### texts -/
theorem strG_append {x y : Str} (h1 : strG x = true) (h2 : strG y = true) : strG (x ++ y) = true := by
  unfold strG at *
  rw [show (x ++ y).cps = x.cps ++ y.cps from rfl, Array.toList_append, List.all_append, h1, h2]; rfl
theorem strG_cut {x : Str} (h : strG x = true) (lo hi : Option Int) : strG (cutS x lo hi) = true := by
  unfold strG at *
  rw [List.all_eq_true] at *
  intro c hc
  refine h c ?_
  have : c ∈ ((x.cps.toList.drop (HT.sIx x.length 0 lo)).take (HT.sIx x.length x.length hi - HT.sIx x.length 0 lo)) := by
    unfold cutS at hc
    simpa using hc
  exact List.mem_of_mem_drop (List.mem_of_mem_take this)
theorem strG_reps {c : Array Nat} (h : ∀ k ∈ c.toList, k < 1114112) : ∀ (n : Nat) (acc : Array Nat), (∀ k ∈ acc.toList, k < 1114112) → ∀ k ∈ ((List.replicate n c).foldl (· ++ ·) acc).toList, k < 1114112
  | 0, acc, ha => ha
  | n + 1, acc, ha => by
    rw [List.replicate_succ, List.foldl_cons]
    refine strG_reps h n _ fun k hk => ?_
    rw [Array.toList_append, List.mem_append] at hk
    exact hk.elim (ha k) (h k)
theorem strG_mul {x : Str} (h : strG x = true) (n : Int) : strG (Txt.mul x n) = true := by
  unfold strG at *
  simp only [List.all_eq_true, decide_eq_true_eq] at *
  unfold Txt.mul
  split
  · intro k hk; simp [Str.empty] at hk
  · split
    · exact h
    · exact strG_reps h _ _ (by simp)
/-! ### shaped -/
mutual
theorem lay_of {b : Nat} : ∀ d : PyData, chk b d = true → d.canLay0 = true
  | .none, _ => rfl
  | .bool _, _ => rfl
  | .int _, _ => rfl
  | .str x, h => by
    simp only [chk, strG, List.all_eq_true, decide_eq_true_eq] at h
    show PyData.strOk x = true
    unfold PyData.strOk
    rw [← Array.all_toList, List.all_eq_true]
    intro c hc
    exact decide_eq_true (h c hc)
  | .list xs, h => layAll_of xs h
  | .tuple xs, h => layAll_of xs h
  | .dict _, h => by cases h
theorem layAll_of {b : Nat} : ∀ ds : List PyData, chkAll b ds = true → PyData.canLayAll0 ds = true
  | [], _ => rfl
  | d :: ds, h => by
    simp only [chkAll, Bool.and_eq_true] at h
    simp only [PyData.canLayAll0, lay_of d h.1, layAll_of ds h.2]; rfl
end
theorem Gd.shaped {b c n : Nat} {d : PyData} (g : Gd b c n d) (hn : n ≤ 64) : SeqAt.shaped d = true := by
  unfold SeqAt.shaped
  rw [lay_of d g.ck, decide_eq_true (Nat.le_trans g.dp hn)]; rfl
theorem eqD_tt {b c n b' c' n' : Nat} {ds es : List PyData} {P : Bool → Prop} (g : Gd b c n (.tuple ds)) (g' : Gd b' c' n' (.tuple es)) (hn : n ≤ 64) (hn' : n' ≤ 64) (h : P (PyData.eqvAll ds es)) : eqD (.tuple ds) (.tuple es) P :=
  ⟨g.shaped hn, g'.shaped hn', h⟩
theorem fEq_tt {b c n b' c' n' : Nat} {ds es : List PyData} {Q : SV → Prop} {neg : Bool} (g : Gd b c n (.tuple ds)) (g' : Gd b' c' n' (.tuple es)) (hn : n ≤ 64) (hn' : n' ≤ 64) (h : Q (.v (.bool (if neg then !PyData.eqvAll ds es else PyData.eqvAll ds es)))) : fEq neg (.v (.tuple ds)) (.v (.tuple es)) Q :=
  ⟨_, _, rfl, rfl, eqD_tt g g' hn hn' h⟩
/-! ### pieces -/
theorem cut_lo {xs : List PyData} {k : Nat} : VL.cutD xs none (some (k : Int)) = xs.take k := by
  unfold VL.cutD
  rw [HT.sIx_none, HT.sIx_nat, List.drop_zero, Nat.sub_zero]
  by_cases h : k ≤ xs.length
  · rw [Nat.min_eq_left h]
  · rw [Nat.min_eq_right (by omega), List.take_of_length_le (by omega), List.take_of_length_le (by omega)]
theorem cut_hi {xs : List PyData} {k : Nat} : VL.cutD xs (some (k : Int)) none = xs.drop k := by
  unfold VL.cutD
  rw [HT.sIx_none, HT.sIx_nat]
  by_cases h : k ≤ xs.length
  · rw [Nat.min_eq_left h, List.take_of_length_le (by rw [List.length_drop]; omega)]
  · rw [Nat.min_eq_right (by omega), List.drop_of_length_le (by omega), List.drop_of_length_le (by omega)]; exact List.take_nil
theorem GdA.len {b c n : Nat} : ∀ {xs : List PyData} {c : Nat}, GdA b c n xs → xs.length ≤ c
  | [], _, _ => Nat.zero_le _
  | x :: xs, c, g => by
    have h1 := g.ck
    have h2 := g.sz
    have h3 := g.dp
    simp only [chkAll, Bool.and_eq_true] at h1
    simp only [szAll] at h2
    simp only [PyData.depthAll] at h3
    have := GdA.len (c := szAll xs) (⟨h1.2, Nat.le_refl _, by omega⟩ : GdA b _ n xs)
    have := sz_pos x
    simp only [List.length_cons]
    omega
/-- one item in another one's place -/
theorem GdA.put {b c n c' : Nat} {xs : List PyData} (g : GdA b c n xs) {i : Nat} {d e : PyData} (h : xs[i]? = some d) (ge : Gd b c' n e) : GdA b (c + c') n (xs.take i ++ e :: xs.drop (i + 1)) := by
  have a := g.take i
  obtain ⟨hl, he⟩ := List.getElem?_eq_some_iff.mp h
  have hx : xs.take i ++ xs.drop i = xs := List.take_append_drop i xs
  have hd : xs.drop i = xs[i] :: xs.drop (i + 1) := List.drop_eq_getElem_cons hl
  have s1 : szAll (xs.take i) + szAll (xs.drop i) = szAll xs := by rw [← szAll_append, hx]
  have s2 : szAll (xs.drop i) = VL.sz xs[i] + szAll (xs.drop (i + 1)) := by rw [hd, szAll]
  have k := g.drop (i + 1)
  have := (GdA.append (⟨a.ck, Nat.le_refl _, a.dp⟩ : GdA b (szAll (xs.take i)) n (xs.take i)) (GdA.cons ge (⟨k.ck, Nat.le_refl _, k.dp⟩ : GdA b (szAll (xs.drop (i + 1))) n (xs.drop (i + 1)))))
  exact this.mono (Nat.le_refl _) (by have := g.sz; omega) (Nat.le_refl _)
theorem GdA.snoc {b c n c' : Nat} {x : PyData} {xs : List PyData} (h : GdA b c n xs) (g : Gd b c' n x) : GdA b (c + c') n (xs ++ [x]) := h.append (GdA.one g)
theorem GdA.mem {b c n : Nat} {xs : List PyData} (g : GdA b c n xs) {d : PyData} (h : d ∈ xs) : Gd b c n d := by
  obtain ⟨i, e⟩ := List.getElem?_of_mem h
  exact g.get e
/-- a thing of a few, at a place drawn -/
theorem chk_int {b : Nat} {i : Int} (h : i.natAbs < 2 ^ b) : chk b (.int i) = true := decide_eq_true h
theorem abs_mono {i : Int} {b b' : Nat} (h : i.natAbs < 2 ^ b) (hb : b ≤ b') : i.natAbs < 2 ^ b' := Nat.lt_of_lt_of_le h (Nat.pow_le_pow_right (by decide) hb)
theorem abs_add {i j : Int} {b : Nat} (h : i.natAbs < 2 ^ b) (h' : j.natAbs < 2 ^ b) : (i + j).natAbs < 2 ^ (b + 1) := by
  rw [Nat.pow_succ]; omega
/-! ### isinstance, of each kind -/
theorem isT_int_none  : isT "int" .none = false := by simp [isT, tyName]
theorem isT_int_bool {x : Bool} : isT "int" (.bool x) = true := by simp [isT, tyName]
theorem isT_int_int {i : Int} : isT "int" (.int i) = true := by simp [isT, tyName]
theorem isT_int_str {z : Str} : isT "int" (.str z) = false := by simp [isT, tyName]
theorem isT_int_list {ds : List PyData} : isT "int" (.list ds) = false := by simp [isT, tyName]
theorem isT_int_tuple {ds : List PyData} : isT "int" (.tuple ds) = false := by simp [isT, tyName]
theorem isT_int_dict {kv : List (PyData × PyData)} : isT "int" (.dict kv) = false := by simp [isT, tyName]
theorem isT_bool_none  : isT "bool" .none = false := by simp [isT, tyName]
theorem isT_bool_bool {x : Bool} : isT "bool" (.bool x) = true := by simp [isT, tyName]
theorem isT_bool_int {i : Int} : isT "bool" (.int i) = false := by simp [isT, tyName]
theorem isT_bool_str {z : Str} : isT "bool" (.str z) = false := by simp [isT, tyName]
theorem isT_bool_list {ds : List PyData} : isT "bool" (.list ds) = false := by simp [isT, tyName]
theorem isT_bool_tuple {ds : List PyData} : isT "bool" (.tuple ds) = false := by simp [isT, tyName]
theorem isT_bool_dict {kv : List (PyData × PyData)} : isT "bool" (.dict kv) = false := by simp [isT, tyName]
theorem isT_str_none  : isT "str" .none = false := by simp [isT, tyName]
theorem isT_str_bool {x : Bool} : isT "str" (.bool x) = false := by simp [isT, tyName]
theorem isT_str_int {i : Int} : isT "str" (.int i) = false := by simp [isT, tyName]
theorem isT_str_str {z : Str} : isT "str" (.str z) = true := by simp [isT, tyName]
theorem isT_str_list {ds : List PyData} : isT "str" (.list ds) = false := by simp [isT, tyName]
theorem isT_str_tuple {ds : List PyData} : isT "str" (.tuple ds) = false := by simp [isT, tyName]
theorem isT_str_dict {kv : List (PyData × PyData)} : isT "str" (.dict kv) = false := by simp [isT, tyName]
theorem isT_list_none  : isT "list" .none = false := by simp [isT, tyName]
theorem isT_list_bool {x : Bool} : isT "list" (.bool x) = false := by simp [isT, tyName]
theorem isT_list_int {i : Int} : isT "list" (.int i) = false := by simp [isT, tyName]
theorem isT_list_str {z : Str} : isT "list" (.str z) = false := by simp [isT, tyName]
theorem isT_list_list {ds : List PyData} : isT "list" (.list ds) = true := by simp [isT, tyName]
theorem isT_list_tuple {ds : List PyData} : isT "list" (.tuple ds) = false := by simp [isT, tyName]
theorem isT_list_dict {kv : List (PyData × PyData)} : isT "list" (.dict kv) = false := by simp [isT, tyName]
theorem isT_tuple_none  : isT "tuple" .none = false := by simp [isT, tyName]
theorem isT_tuple_bool {x : Bool} : isT "tuple" (.bool x) = false := by simp [isT, tyName]
theorem isT_tuple_int {i : Int} : isT "tuple" (.int i) = false := by simp [isT, tyName]
theorem isT_tuple_str {z : Str} : isT "tuple" (.str z) = false := by simp [isT, tyName]
theorem isT_tuple_list {ds : List PyData} : isT "tuple" (.list ds) = false := by simp [isT, tyName]
theorem isT_tuple_tuple {ds : List PyData} : isT "tuple" (.tuple ds) = true := by simp [isT, tyName]
theorem isT_tuple_dict {kv : List (PyData × PyData)} : isT "tuple" (.dict kv) = false := by simp [isT, tyName]
/-! ### slices -/
def slM (s : SV) (lo hi : Option Int) (Q : SV → Prop) : Prop := (∃ ds, s.asL = some ds ∧ Q (.own (VL.cutD ds lo hi))) ∨ (∃ ds, s.asT = some ds ∧ Q (.v (.tuple (VL.cutD ds lo hi)))) ∨ ∃ z : Str, s = .v (.str z) ∧ z.length ≤ sizeLine ∧ Q (.v (.str (cutS z lo hi)))
theorem m_slM {t : TV} {tl th : TVo} {ρ : VL.Env} {Q : SV → Prop} : vSl t tl th ρ Q = t ρ fun s => tl ρ fun lo => th ρ fun hi => slM s lo hi Q := (Eq.refl _).trans (Eq.refl _)
theorem slM_str {z : Str} {lo hi : Option Int} {Q : SV → Prop} : slM (.v (.str z)) lo hi Q = (z.length ≤ sizeLine ∧ Q (.v (.str (cutS z lo hi)))) := by simp [slM, SV.asL, SV.asT]
theorem slM_tup {ds : List PyData} {lo hi : Option Int} {Q : SV → Prop} : slM (.v (.tuple ds)) lo hi Q = Q (.v (.tuple (VL.cutD ds lo hi))) := by simp [slM, SV.asL, SV.asT]
theorem slM_lst {ds : List PyData} {lo hi : Option Int} {Q : SV → Prop} : slM (.v (.list ds)) lo hi Q = Q (.own (VL.cutD ds lo hi)) := by simp [slM, SV.asL, SV.asT]
theorem slM_own {ds : List PyData} {lo hi : Option Int} {Q : SV → Prop} : slM (.own ds) lo hi Q = Q (.own (VL.cutD ds lo hi)) := by simp [slM, SV.asL, SV.asT]
theorem slM_brw {ds : List PyData} {lo hi : Option Int} {Q : SV → Prop} : slM (.brw ds) lo hi Q = Q (.own (VL.cutD ds lo hi)) := by simp [slM, SV.asL, SV.asT]
end VL
namespace VL
open PySem PySem.Spec PyProof.Rows L2 VG
/-! ### [e for a in xs for b in ys] -/
def bare (ρ : VL.Env) : VL.Env := ρ.map fun s => match s with
  | .ow _ _ => .un
  | s => s
theorem bare_some {ρ : VL.Env} {i : Nat} {s : SV} (h : (bare ρ)[i]? = some s) (hs : s ≠ .un) : ρ[i]? = some s ∧ ∀ c ds, s ≠ .ow c ds := by
  unfold bare at h
  rw [List.getElem?_map] at h
  rcases e : ρ[i]? with _ | t
  · rw [e] at h; cases h
  · rw [e] at h
    cases t <;> simp at h <;> subst h <;> first | exact absurd rfl hs | exact ⟨rfl, fun _ _ z => nomatch z⟩
def canI (w : Bool) (K : PySem.W.Frag) (it : TVl) (κ : Nat) : TI := fun σ H R => ∃ B F ρ, ∃ Q : List PyData → Prop, ER K B F H σ ρ ∧ F.ck + κ ≤ LIM ∧ it ρ Q ∧ ∀ ds J (F' : FS) H', F'.ck ≤ F.ck + κ → Q ds → Ext ρ F H F' H' → Wk w J K ds F' H' → R J H'
theorem VI.can {w : Bool} {κ1 : Nat} {X : Cx} {tg iter : Expr} {it : TVl} (h : VI w X tg iter it κ1) : PI X tg iter (canI w X.K it κ1) := by
  obtain ⟨wi, pi, g⟩ := h
  exact ⟨fun pins s σ H R I ⟨B, F, ρ, Q, er, bq, ht, k⟩ => pi.run pins s σ H R I (g B F H σ ρ Q R er bq ht k)⟩
section
variable {K : PySem.W.Frag} {B : Bas} {F F' F1 F2 : FS} {H H' H1 H2 : Hp} {σ : Hs} {ρ ρ' : VL.Env}
theorem csub_bare : CSub (bare ρ) ρ := fun i a ns e => ⟨i, (bare_some e (fun z => nomatch z)).1⟩
theorem ER.bare (er : ER K B F H σ ρ) : ER K B F H σ (VL.bare ρ) where
  len := by unfold VL.bare; rw [List.length_map]; exact er.len
  sl := fun i s h hn => er.sl i s (bare_some h hn).1 hn
  nb := fun i c ds h => er.nb i c ds (bare_some h (fun z => nomatch z)).1
  ow := fun i j c c' ds es p h1 h2 h3 h4 => absurd rfl ((bare_some h1 (fun z => nomatch z)).2 c ds)
  fr := fun i c ds p h1 h2 => absurd rfl ((bare_some h1 (fun z => nomatch z)).2 c ds)
  cf := fun a c => er.cf a (csub_cells csub_bare c)
  bs := er.bs
  kb := er.kb
  pin := er.pin
  dm := er.dm
/-- a list that no slot has changes -/
theorem ER.mutD (er : ER K B F H σ ρ) (no : ∀ (i : Nat) (c : CT) (ds : List PyData), ρ[i]? ≠ some (.ow c ds)) {D : Addr} {us vs : List V} (hD : H D = some (.lst us)) (nf : ¬ F D) (h0 : B.H0 D = none) (nc : ¬ cellsOf ρ D) : ER K B F (upd H D (.lst vs)) σ ρ := by
  have n2 : ∀ {a : Addr}, cellsOf ρ a → a ≠ D := fun {a} c z => nc (by rw [← z]; exact c)
  have m : FM F F H (upd H D (.lst vs)) := FM.write (c := .lst) (c' := .lst) hD nf
  refine ⟨er.len, fun i s h hn => ?_, er.nb, er.ow, er.fr, er.cf, er.bs.mut h0, fun a ns h => ?_, fun a o h => ?_, fun a f => ?_⟩
  · obtain ⟨u, h1, h2⟩ := er.sl i s h hn
    refine ⟨u, h1, ?_⟩
    cases s with
    | un => trivial
    | v d => exact Rp.mono m h2
    | ow c ds => exact absurd h (no i c ds)
    | bw c ds => exact absurd h (er.nb i c ds)
    | fz ks ds =>
      obtain ⟨p, ws, rfl, f, e1, r⟩ := h2
      exact ⟨p, ws, rfl, m.fr _ f, m.fk _ _ f e1, Rp.mono m r⟩
    | cell a ns => exact ⟨h2.1, h2.2.mut (n2 ⟨i, ns, h⟩) nf⟩
    | scr ns =>
      obtain ⟨a, rfl, q⟩ := h2
      exact ⟨a, rfl, q.keep m⟩
    | dct kvs =>
      obtain ⟨p, ws, rfl, f, e1, k, r⟩ := h2
      exact ⟨p, ws, rfl, m.fr _ f, m.fk _ _ f e1, k, Rp.mono m r⟩
    | fns kvs =>
      obtain ⟨p, rfl, f, e1⟩ := h2
      exact ⟨p, rfl, m.fr _ f, m.fk _ _ f e1⟩
  · exact ⟨(er.kb a ns h).1.mut (fun z => (er.kb a ns h).2 (by rw [z]; exact h0)) nf, (er.kb a ns h).2⟩
  · obtain ⟨h1, h2⟩ := er.pin a o h
    have n1 : a ≠ D := fun z => by
      rw [z, hD] at h1
      have e := Option.some.inj h1
      rcases h2 with f | ⟨xs, e2⟩ | ⟨ob, u, e2⟩
      · exact nf (z ▸ f)
      · rw [← e] at e2; cases e2
      · rw [← e] at e2; cases e2
    exact ⟨by rw [upd_ne n1]; exact h1, h2⟩
  · obtain ⟨o, e, l⟩ := er.dm a f
    exact ⟨o, m.fk _ _ f e, l⟩
end
def cLoop2 (g : TGt) (c : TVb) (it1 : TVl) (g1 : TGt) (c1 : TVb) (t : TV) (vs1 : List Nat) (w : VL.Env) : List PyData → List PyData → (List PyData → Prop) → Prop
  | [], acc, Q => Q acc
  | d :: ds, acc, Q => g d w fun ρ' => c ρ' fun b => if b = true then it1 ρ' fun ds1 => cLoop g1 c1 t (wipeV (bare ρ') vs1) ds1 acc fun acc' => cLoop2 g c it1 g1 c1 t vs1 w ds acc' Q else cLoop2 g c it1 g1 c1 t vs1 w ds acc Q
def vLc2 (it : TVl) (g : TGt) (c : TVb) (it1 : TVl) (g1 : TGt) (c1 : TVb) (t : TV) (vs vs1 : List Nat) : TV := fun ρ Q => it ρ fun ds => cLoop2 g c it1 g1 c1 t vs1 (wipeV ρ vs) ds [] fun acc => Q (.own acc)
theorem wipe_wipe (σ : Hs) (vs' : List Nat) : wipe (wipe σ vs') vs' = wipe σ vs' := by
  apply List.ext_getElem?
  intro j
  by_cases hj : j ∈ vs'
  · have no : ∀ τ : Hs, (wipe τ vs')[j]? = (if j < τ.length then some none else none) := fun τ => by
      by_cases hl : j < τ.length
      · rcases e1 : (wipe τ vs')[j]? with _ | o
        · rw [List.getElem?_eq_none_iff, wipe_length] at e1; omega
        · cases o with
          | none => simp [hl]
          | some v => exact absurd hj (wipe_some e1).2
      · rw [List.getElem?_eq_none_iff.mpr (by rw [wipe_length]; omega)]; simp [hl]
    rw [no, no, wipe_length]
  · rw [wipe_out hj]
section
variable {X : Cx} {scope : Scope} {tg iter tg1 iter1 elt e : Expr} {ifs ifs1 : List Expr} {is is1 vs vs1 : List Nat} {it it1 : TVl} {g g1 : TGt} {c c1 : TVb} {t : TV}
theorem lc2_go {w w1 : Bool} {κ1 : Nat} (hi : VI w X tg iter it κ1) (his : ∀ i ∈ is, i ∈ vs) (his1 : ∀ i ∈ is1, i ∈ vs1) :
    ∃ wi, PI X tg iter wi ∧ RE X (vLc2 it g c it1 g1 c1 t vs vs1) κ1 (tLc2 wi (canG w X.K is g) (canT X.K c 0) (canI w1 X.K it1 0) (canG w1 X.K is1 g1) (canT X.K c1 0) (canE X.K t 0) vs vs1) := by
  obtain ⟨wi, pi, gi⟩ := hi
  refine ⟨wi, pi, fun B F H σ ρ Q R er bq q k => ?_⟩
  refine gi B F H σ ρ _ _ er (by omega) q fun ds J F1 H1 cq q1 x wk D hD => ?_
  have hD0 : H D = none := by
    by_cases z : H D = none
    · exact z
    · exact absurd hD (x.st.ex D z)
  have er1 := er.step x
  have hB0 : B.H0 D = none := by
    by_cases z : B.H0 D = none
    · exact z
    · exact absurd hD0 (er.bs.ex D z)
  have nf1 : ¬ F1 D := fun z => by
    obtain ⟨xs, e, _⟩ := x.dm D z
    rw [hD] at e; cases e
  have keepD : ∀ {F4 : FS} {H4 : Hp} {F5 : FS} {H5 : Hp} {ρ4 : VL.Env} {ws : List V} {zs : List PyData}, Ext ρ4 F4 H4 F5 H5 → CSub ρ4 ρ → H4 D = some (.lst ws) → ¬ F4 D → RA X.K F4 H4 ws zs → H5 D = some (.lst ws) ∧ ¬ F5 D ∧ RA X.K F5 H5 ws zs := by
    intro F4 H4 F5 H5 ρ4 ws zs x4 cs e4 n4 r4
    refine ⟨x4.st.kp _ _ e4 fun c => x.cp D (csub_cells cs c) hD0, fun z => (x4.st.nw D z).elim n4 fun z => ?_, Rp.mono x4.st.toFM r4⟩
    rw [z] at e4; cases e4
  refine ⟨fun i m H' => m = ds.length - i ∧ i ≤ ds.length ∧ ∃ (F' : FS) (us : List V) (acc : List PyData), F'.ck ≤ F1.ck ∧ Ext ρ F1 H1 F' H' ∧ H' D = some (.lst us) ∧ ¬ F' D ∧ RA X.K F' H' us acc ∧ cLoop2 g c it1 g1 c1 t vs1 (wipeV ρ vs) (ds.drop i) acc (fun acc => Q (.own acc)),
    ⟨_, rfl, Nat.zero_le _, F1, [], [], Nat.le_refl _, er1.refl.pure (Stp.new hD) (x.dm.new hD), upd_same, nf1, .nil, q1⟩, ?_⟩
  rintro i m H' ⟨rfl, hi, F', us, acc, ce, x', hD', nf', ra, q'⟩
  have fm : FM F1 F' H1 H' := x'.st.toFM
  by_cases hlt : i < ds.length
  · refine .inr ⟨wk.go i F' H' fm x'.dm hlt, fun H3 => ∃ (F3 : FS) (us : List V) (acc : List PyData), F3.ck ≤ F1.ck ∧ Ext ρ F1 H1 F3 H3 ∧ H3 D = some (.lst us) ∧ ¬ F3 D ∧ RA X.K F3 H3 us acc ∧ cLoop2 g c it1 g1 c1 t vs1 (wipeV ρ vs) (ds.drop (i + 1)) acc (fun acc => Q (.own acc)),
      fun H3 z => ⟨ds.length - (i + 1), by omega, rfl, hlt, z⟩, fun y H2 hy => ?_⟩
    have hd : ds[i]? = some (ds[i]'hlt) := List.getElem?_eq_getElem hlt
    obtain ⟨F2, c2, st, dm, r⟩ := wk.yld i F' H' y H2 _ fm x'.dm hd hy
    have x2 : Ext ρ F1 H1 F2 H2 := x'.pure st dm
    have hD2 : H2 D = some (.lst us) := st.kp _ _ hD' (fun z => z)
    have nf2 : ¬ F2 D := fun z => (st.nw D z).elim nf' fun z => by rw [z] at hD'; cases hD'
    have ra2 : RA X.K F2 H2 us acc := Rp.mono st.toFM ra
    rw [List.drop_eq_getElem_cons hlt] at q'
    have erw := (er1.step x2).wipe vs
    refine ⟨B, F2, wipeV ρ vs, _, _, erw, r, q', fun σ3 ρ3 er3 w3 q3 => ⟨?_, ?_⟩⟩
    · have w4 := w3.1 vs his
      rw [w4, wipe_wipe]
    · refine ⟨B, F2, ρ3, _, er3, by omega, q3, fun b F4 H4 c4 q4 x4 => ?_⟩
      have cs3 : CSub ρ3 ρ := w3.2.trans csub_wipe
      obtain ⟨d4, n4, r4⟩ := keepD x4 cs3 hD2 nf2 ra2
      have x4' := x2.sub x4 cs3
      cases b with
      | false => exact ⟨F4, us, acc, by omega, x4', d4, n4, r4, q4⟩
      | true =>
        refine ⟨B, F4, ρ3, _, er3.step x4, by omega, q4, fun ds1 J1 F5 H5 c5 q5 x5 wk1 => ?_⟩
        obtain ⟨d5, n5, r5⟩ := keepD x5 cs3 d4 n4 r4
        have x5' := x4'.sub x5 cs3
        have er5 := ((er3.step x4).step x5).bare
        have csb : CSub (bare ρ3) ρ := csub_bare.trans cs3
        have nob : ∀ (i : Nat) (c : CT) (ds : List PyData), (bare ρ3)[i]? ≠ some (.ow c ds) := fun i c ds z => (bare_some z (fun z => nomatch z)).2 c ds rfl
        refine ⟨fun j k' H6 => k' = ds1.length - j ∧ j ≤ ds1.length ∧ ∃ (F6 : FS) (us : List V) (acc : List PyData), F6.ck ≤ F1.ck ∧ Ext ρ F1 H1 F6 H6 ∧ FM F5 F6 H5 H6 ∧ ER X.K B F6 H6 σ3 (bare ρ3) ∧ H6 D = some (.lst us) ∧ ¬ F6 D ∧ RA X.K F6 H6 us acc ∧ cLoop g1 c1 t (wipeV (bare ρ3) vs1) (ds1.drop j) acc (fun acc' => cLoop2 g c it1 g1 c1 t vs1 (wipeV ρ vs) (ds.drop (i + 1)) acc' (fun acc => Q (.own acc))),
          ⟨_, rfl, Nat.zero_le _, F5, us, acc, by omega, x5', FM.refl, er5, d5, n5, r5, q5⟩, ?_⟩
        rintro j k' H6 ⟨rfl, hj, F6, us6, acc6, c6, x6, fm6, er6, d6, n6, r6, q6⟩
        by_cases hlt1 : j < ds1.length
        · refine .inr ⟨wk1.go j F6 H6 fm6 x6.dm hlt1, fun H7 => ∃ (F7 : FS) (us : List V) (acc : List PyData), F7.ck ≤ F1.ck ∧ Ext ρ F1 H1 F7 H7 ∧ FM F5 F7 H5 H7 ∧ ER X.K B F7 H7 σ3 (bare ρ3) ∧ H7 D = some (.lst us) ∧ ¬ F7 D ∧ RA X.K F7 H7 us acc ∧ cLoop g1 c1 t (wipeV (bare ρ3) vs1) (ds1.drop (j + 1)) acc (fun acc' => cLoop2 g c it1 g1 c1 t vs1 (wipeV ρ vs) (ds.drop (i + 1)) acc' (fun acc => Q (.own acc))),
            fun H7 z => ⟨ds1.length - (j + 1), by omega, rfl, hlt1, z⟩, fun y1 H7 hy1 => ?_⟩
          have hd1 : ds1[j]? = some (ds1[j]'hlt1) := List.getElem?_eq_getElem hlt1
          obtain ⟨F7, c7, st7, dm7, ry⟩ := wk1.yld j F6 H6 y1 H7 _ fm6 x6.dm hd1 hy1
          have x7 : Ext ρ F1 H1 F7 H7 := x6.pure st7 dm7
          have xb : Ext (bare ρ3) F6 H6 F7 H7 := er6.refl.pure st7 dm7
          have d7 : H7 D = some (.lst us6) := st7.kp _ _ d6 (fun z => z)
          have n7 : ¬ F7 D := fun z => (st7.nw D z).elim n6 fun z => by rw [z] at d6; cases d6
          have r7 : RA X.K F7 H7 us6 acc6 := Rp.mono st7.toFM r6
          have fm7 : FM F5 F7 H5 H7 := fm6.trans st7.toFM
          rw [List.drop_eq_getElem_cons hlt1] at q6
          have er7 := er6.step xb
          refine ⟨B, F7, wipeV (bare ρ3) vs1, _, _, er7.wipe vs1, ry, q6, fun σ8 ρ8 er8 w8 q8 => ⟨?_, ?_⟩⟩
          · rw [w8.1 vs1 his1, wipe_wipe]
          · have cs8 : CSub ρ8 (bare ρ3) := w8.2.trans csub_wipe
            refine ⟨B, F7, ρ8, _, er8, by omega, q8, fun b F9 H9 c9 q9 x9 => ?_⟩
            obtain ⟨d9, n9, r9⟩ := keepD x9 (cs8.trans csb) d7 n7 r7
            have x9' := x7.sub x9 (cs8.trans csb)
            have xb9 : Ext (bare ρ3) F6 H6 F9 H9 := xb.sub x9 cs8
            cases b with
            | false => exact ⟨F9, us6, acc6, by omega, x9', fm7.trans x9.st.toFM, er6.step xb9, d9, n9, r9, q9⟩
            | true =>
              refine ⟨B, F9, ρ8, _, er8.step x9, by omega, q9, fun s u FA HA cA ⟨z, ez, hz, qz⟩ xA => ?_⟩
              obtain ⟨FC, cC, xC, rC⟩ := data_all (us := [u]) (ss := [s]) xA.toExt ⟨xA.sr, xA.fo, trivial⟩ ez
              obtain ⟨dC, nC, rD⟩ := keepD xC (cs8.trans csb) d9 n9 r9
              have xE := x9'.sub xC (cs8.trans csb)
              have xbE : Ext (bare ρ3) F6 H6 FC HA := xb9.sub xC cs8
              have mW := FM.write (c := .lst) (c' := .lst) (vs := us6 ++ [u]) dC nC
              refine ⟨us6, dC, ?_, FC, us6 ++ [u], acc6 ++ [z], by omega, ⟨xE.st.mut hD, ?_, fun j a ns ej => (xE.cl j a ns ej).mut (fun z => xE.cp a ⟨j, ns, ej⟩ (by rw [z]; exact hD)) nC, xE.cp⟩, ((fm7.trans x9.st.toFM).trans xC.st.toFM).trans mW, (er6.step xbE).mutD nob dC nC hB0 (fun c => xE.cp D (csub_cells csb c) hD), upd_same, nC, ?_, qz⟩
              · rw [rD.len]; exact Nat.lt_of_lt_of_le hz (by decide)
              · intro a f
                obtain ⟨ws, e, l⟩ := xE.dm a f
                exact ⟨ws, by rw [upd_ne (fun z => nC (by rw [← z]; exact f))]; exact e, l⟩
              · exact RA.append (Rp.mono mW rD) (Rp.mono mW rC)
        · have e : j = ds1.length := by omega
          subst e
          rw [List.drop_length] at q6
          exact .inl ⟨wk1.stop F6 H6 fm6 x6.dm, F6, us6, acc6, c6, x6, d6, n6, r6, q6⟩
  · have e : i = ds.length := by omega
    subst e
    rw [List.drop_length] at q'
    refine .inl ⟨wk.stop F' H' fm x'.dm, k _ _ F' H' (by omega) q' ⟨x.trans x', ⟨D, us, rfl, hD', nf', ra⟩, fun p e => ?_⟩⟩
    cases e
    exact hD0
theorem ve_lc2 {w w1 : Bool} {κ1 κ2 κ3 κ4 κ5 : Nat} (h : ∀ wi gt tt wi1 gt1 tt1 te, PI X tg iter wi → Bk X scope (PG · tg gt) → Bk X scope (PTs · ifs tt) → Bk X scope (PI · tg1 iter1 wi1) → Bk X scope (PG · tg1 gt1) → Bk X scope (PTs · ifs1 tt1) → Bk X scope (PE · elt te) → PE X e (tLc2 wi gt tt wi1 gt1 tt1 te vs vs1))
    (hi : VI w X tg iter it κ1) (hg : Bk X scope (VTg w · is tg g)) (hc : Bk X scope (VTs · ifs c κ2)) (hi1 : Bk X scope (VI w1 · tg1 iter1 it1 κ3)) (hg1 : Bk X scope (VTg w1 · is1 tg1 g1)) (hc1 : Bk X scope (VTs · ifs1 c1 κ4)) (he : Bk X scope (VE · elt t κ5))
    (his : ∀ i ∈ is, i ∈ vs) (his1 : ∀ i ∈ is1, i ∈ vs1) (h0 : κ2 + κ3 + κ4 + κ5 = 0 := by omega) : VE X e (vLc2 it g c it1 g1 c1 t vs vs1) κ1 := by
  obtain ⟨rfl, rfl, rfl, rfl⟩ : κ2 = 0 ∧ κ3 = 0 ∧ κ4 = 0 ∧ κ5 = 0 := ⟨by omega, by omega, by omega, by omega⟩
  obtain ⟨wi, pi, gi⟩ := lc2_go (g := g) (c := c) (it1 := it1) (g1 := g1) (c1 := c1) (t := t) hi his his1
  exact ⟨_, h wi (canG w X.K is g) (canT X.K c 0) (canI w1 X.K it1 0) (canG w1 X.K is1 g1) (canT X.K c1 0) (canE X.K t 0) pi (fun s H C cl fp => (hg s H C cl fp).can) (fun s H C cl fp => (hc s H C cl fp).can) (fun s H C cl fp => (hi1 s H C cl fp).can) (fun s H C cl fp => (hg1 s H C cl fp).can) (fun s H C cl fp => (hc1 s H C cl fp).can) (fun s H C cl fp => (he s H C cl fp).can), gi⟩
end
/-! ### dicts that stay -/
def keyOf : PyData → Option L2.Key
  | .int i => some (.inl i)
  | .str x => some (.inr x)
  | _ => none
def dFind (kvs : List (L2.Key × PyData)) (k : L2.Key) : Option PyData := (kvs.find? fun kv => decide (kv.1 = k)).map (·.2)
theorem mergeK_nodup : ∀ (kvs acc : List (L2.Key × V)), ((acc ++ kvs).map (·.1)).Nodup → mergeK acc kvs = acc ++ kvs
  | [], acc, _ => (List.append_nil acc).symm
  | (k, v) :: r, acc, h => by
    have hk : (acc.any fun kv => decide (kv.1 = k)) = false := by
      rw [List.any_eq_false]
      intro p hp e
      have e := of_decide_eq_true e
      rw [List.map_append, List.nodup_append] at h
      exact h.2.2 p.1 (List.mem_map.mpr ⟨p, hp, rfl⟩) k (by simp) e
    show mergeK (putK acc k v) r = acc ++ (k, v) :: r
    have e : putK acc k v = acc ++ [(k, v)] := by
      unfold putK
      rw [hk]; rfl
    rw [e, mergeK_nodup r (acc ++ [(k, v)]) (by rw [List.append_assoc]; exact h), List.append_assoc]; rfl
section
variable {K : PySem.W.Frag} {F : FS} {H : Hp}
theorem dct_find : ∀ {us : List (L2.Key × V)} {kvs : List (L2.Key × PyData)}, us.map (·.1) = kvs.map (·.1) → RA K F H (us.map (·.2)) (kvs.map (·.2)) → ∀ k, (dFind kvs k = none ∧ valV us k = none) ∨ ∃ v d, dFind kvs k = some d ∧ valV us k = some v ∧ R1 K F H v d
  | [], [], _, _, _ => .inl ⟨rfl, rfl⟩
  | [], _ :: _, e, _, _ => by cases e
  | _ :: _, [], e, _, _ => by cases e
  | (k1, v) :: us, (k2, d) :: kvs, e, r, k => by
    simp only [List.map_cons, List.cons.injEq] at e
    obtain ⟨rfl, e⟩ := e
    obtain ⟨r1, r2⟩ := RA.uncons (by simpa only [List.map_cons] using r)
    by_cases z : k1 = k
    · subst z
      exact .inr ⟨v, d, by simp [dFind], by simp [valV], r1⟩
    · have h1 : dFind ((k1, d) :: kvs) k = dFind kvs k := by simp [dFind, z]
      have h2 : valV ((k1, v) :: us) k = valV us k := by simp [valV, z]
      rw [h1, h2]
      exact dct_find e r2 k
theorem key_of {u : V} {d : PyData} {k : L2.Key} (h : SlotR K F H u (.v d)) (e : keyOf d = some k) : u = kV k := by
  cases d with
  | int i => cases e; exact int_of h
  | str x => cases e; exact str_of h
  | _ => cases e
theorem pairs_of : ∀ {us : List V} {kvs : List (L2.Key × PyData)}, RA K F H us (kvs.map fun kv => .tuple [kD kv.1, kv.2]) →
    ∃ (ps : List Addr) (ws : List (L2.Key × V)), us = ps.map V.ref ∧ Paired (fun p kv => SqT K H p [kV kv.1, kv.2]) ps ws ∧ ws.map (·.1) = kvs.map (·.1) ∧ RA K F H (ws.map (·.2)) (kvs.map (·.2))
  | [], [], _ => ⟨[], [], rfl, .nil, rfl, .nil⟩
  | [], _ :: _, h => by cases h
  | _ :: _, [], h => by cases h
  | u :: us, (k, d) :: kvs, h => by
    obtain ⟨r1, r2⟩ := RA.uncons (by simpa only [List.map_cons] using h)
    obtain ⟨ps, ws, e, p, e2, r⟩ := pairs_of r2
    cases r1 with
    | tup sq rr =>
      rename_i a xs
      obtain ⟨x, y, e3, a1, a2⟩ : ∃ x y, xs = [x, y] ∧ R1 K F H x (kD k) ∧ R1 K F H y d := by
        cases rr with
        | cons b1 b2 =>
          cases b2 with
          | cons c1 c2 =>
            cases c2
            exact ⟨_, _, rfl, b1, c1⟩
      subst e3
      have ex : x = kV k := by
        cases k with
        | inl i => exact int_of a1
        | inr z => exact str_of a1
      subst ex
      exact ⟨a :: ps, (k, y) :: ws, by rw [e]; rfl, .cons sq.t p, by simp only [List.map_cons, e2], .cons a2 r⟩
theorem PRes.newD {p : Addr} {us : List (L2.Key × V)} {kvs : List (L2.Key × PyData)} (d : FOk F H) (hp : H p = none) (e : us.map (·.1) = kvs.map (·.1)) (r : RA K F H (us.map (·.2)) (kvs.map (·.2))) : PRes K F H (F.or (fun x => x = p)) (upd H p (.dK us)) (.dct kvs) (.ref p) := by
  have st := (Stp.new (M := fun _ => False) (F := F) (o := .dK us) hp)
  refine ⟨Nat.le_refl _, st.frz fun x z => by subst z; exact hp, fun a z => ?_, ⟨p, us, rfl, .inr rfl, upd_same, e, Rp.mono (st.toFM.trans FM.grow) r⟩, trivial⟩
  rcases z with z | rfl
  · exact d.new hp a z
  · exact ⟨_, upd_same, .dct⟩
abbrev rDictQ (K : PySem.W.Frag) : List V → Hp → L2.VK → Prop := fun xs H Q => ∃ (a : Addr) (ps : List Addr) (kvs : List (L2.Key × V)), xs = [.ref a] ∧ (SqL K H a (ps.map V.ref) ∨ SqN K H a (ps.map V.ref)) ∧ Paired (fun p kv => SqT K H p [kV kv.1, kv.2]) ps kvs ∧ ∀ p, H p = none → Q (.ref p) (upd H p (.dK (mergeK [] kvs)))
theorem pairs_ofN {X : Cx} {pins : List (Addr × Obj)} {σ : L2.St} {H : Hp} {s : Shared} (J : Inv X pins σ H s) : ∀ {ps : List Addr} {kvs : List (L2.Key × V)}, Paired (fun p kv => SqT X.K H p [kV kv.1, kv.2]) ps kvs →
    ∃ (prs : List (L2.Key × Value)) (pz : List (Value × Value)), KV kvs prs ∧ prs.length = ps.length ∧ pz.length = ps.length ∧
      ∀ (j : Nat) (k v : Value), pz[j]? = some (k, v) → (∃ b, ps[j]? = some b ∧ IsTup s.heap b #[k, v]) ∧ ∃ q, prs[j]? = some (q, v) ∧ keyIs q k = true
  | _, _, .nil => ⟨[], [], .nil, rfl, rfl, fun j k v e => by simp at e⟩
  | _, _, .cons (a := p) (b := kv) h t => by
    obtain ⟨prs, pz, r, l1, l2, hp⟩ := pairs_ofN J t
    obtain ⟨vz, rv, ht, _⟩ := J.tuple h
    obtain ⟨u, y, e, ru, ry⟩ := vals2 rv
    subst e
    refine ⟨(kv.1, y) :: prs, (u, y) :: pz, .cons ⟨rfl, ry⟩ r, by rw [List.length_cons, l1]; rfl, by rw [List.length_cons, l2]; rfl, fun j k v e => ?_⟩
    rcases j with _ | j
    · have e := Option.some.inj (show some (u, y) = some (k, v) from e)
      injection e with e1 e2
      subst e1 e2
      exact ⟨⟨p, rfl, ht⟩, kv.1, rfl, kV_is (P := X.prog) (w := X.w) ru⟩
    · exact hp j k v (by simpa using e)
/-- dict(pairs): a list or a tuple -/
theorem call_dictQ {X : Cx} (hcalm : X.calm = true) : CallR X (.type "dict") (rDictQ X.K) := by
  intro pins s σ H xs us Q J r h
  obtain ⟨a, ps, kvs, ex, hq | hq, hp, q⟩ := h
  · exact call_dictP hcalm pins s σ H xs us Q J r ⟨a, ps, kvs, ex, hq, hp, q⟩
  subst ex
  obtain ⟨u, eu, rx⟩ := vals1 r
  subst eu
  cases rx
  obtain ⟨o, ho, hcl, hdn⟩ := hq.free J
  obtain ⟨vz, rv, ⟨o', ho', _, n, hd⟩, hz⟩ := J.tuple hq.t
  rw [ho] at ho'
  cases ho'
  have ei := refs_at rv
  subst ei
  rw [List.length_map] at hz
  obtain ⟨prs, pz, rel, l1, l2, hpr⟩ := pairs_ofN J hp
  have ok : PlainSeq "tuple" s.heap a (ps.map Value.ref).toArray ∧ PairItems s.heap (ps.map Value.ref).toArray (fun j => ps.getD j 0) pz :=
    ⟨⟨o, n, ho, hcl, hdn, hd⟩, by simp [l2], fun j k v e => by
      obtain ⟨⟨b, e1, tb⟩, _⟩ := hpr j k v e
      have eb : ps.getD j 0 = b := by rw [List.getD_eq_getElem?_getD, e1]; rfl
      refine ⟨?_, .inl ?_⟩
      · show _ = some (Value.ref (ps.getD j 0))
        rw [eb]; simp [e1]
      · show s.heap.IsTuple (ps.getD j 0) _
        rw [eb]; exact tb⟩
  refine PySem.call_dict_pairs (knd := mixKind X.prog X.w) (kvs := prs) (PairArg.tuple a _ _ pz) (J.ok.hd hcalm) ok ⟨l1.trans l2.symm, fun i k v e => ?_⟩ (by rw [l2]; exact hz) fun h' tk hd' kp => ?_
  · obtain ⟨_, w, e1, e2⟩ := hpr i k v e
    exact ⟨w, e1, e2⟩
  · have nm : (s.heap.objs.size == sysModules) = false := beq_eq_false_iff_ne.mpr (Nat.ne_of_gt J.big)
    have few : (mergeK [] kvs).length ≤ sizeLine := by
      have := length_mergeK kvs []
      rw [List.length_nil, Nat.zero_add, rel.length, l1] at this
      omega
    exact ⟨.ref s.heap.objs.size, upd H s.heap.objs.size (.dK (mergeK [] kvs)), J.laid (t' := tk) (fun b ob e => kp b ob (by simp) e) (Nat.le_refl _) (show ObjOk X.prog X.w _ _ _ (.dK (mergeK [] kvs)) from ⟨few, nm, merged [] prs, KV.merge rel .nil, hd'⟩), rfl, q _ (J.hok.fresh (Nat.le_refl _))⟩
/-- dict(pairs) -/
def fDictP : FC := fun ss Q => ∃ (s : SV) (kvs : List (L2.Key × PyData)), ss = [s] ∧ s.asQ = some (kvs.map fun kv => .tuple [kD kv.1, kv.2]) ∧ (kvs.map (·.1)).Nodup ∧ Q (.dct kvs)
theorem cs_dictP : CallS K (rDictQ K) fDictP := by
  intro F H us ss Q R fo al ⟨s, kvs, e, e1, nd, q⟩ k
  subst e
  obtain ⟨u, rfl, h⟩ := ah1 al
  obtain ⟨a, xs, rfl, sq, r⟩ := asQ_sq h e1
  obtain ⟨ps, ws, ex, pr, ek, rr⟩ := pairs_of r
  subst ex
  have em : mergeK [] ws = ws := mergeK_nodup ws [] (by rw [List.nil_append, ek]; exact nd)
  refine ⟨a, ps, ws, rfl, sq, pr, fun p hp => ?_⟩
  rw [em]
  exact k _ _ _ _ q (fun _ _ z => nomatch z) (.newD fo hp ek rr)
abbrev rDGet : R2 := fun x y H Q => ∃ a v, x = .ref a ∧ DGet H a y (some v) ∧ Q v H
/-- d[k] -/
def fDGet : FB := fun a b Q => ∃ kvs d k v, a = .dct kvs ∧ b = .v d ∧ keyOf d = some k ∧ dFind kvs k = some v ∧ Q (.v v)
theorem ops_dget : OpS K rDGet fDGet := by
  intro F H u w a b Q R fo ra rb ⟨kvs, d, k, v, e1, e2, ek, ev, q⟩ kk
  subst e1 e2
  obtain ⟨p, us, rfl, f, hp, em, r⟩ := ra
  have ew := key_of rb ek
  subst ew
  rcases dct_find em r k with ⟨z, _⟩ | ⟨x, d2, z1, z2, rr⟩
  · rw [z] at ev; cases ev
  · rw [z1] at ev; cases ev
    exact ⟨p, x, rfl, z2 ▸ DGet.k hp, kk _ _ F H q (fun _ _ z => nomatch z) (.same fo rr)⟩
abbrev rDIn : R2 := fun y x H Q => ∃ a o, x = .ref a ∧ DGet H a y o ∧ Q (.bl o.isSome) H
abbrev rDNotIn : R2 := fun y x H Q => ∃ a o, x = .ref a ∧ DGet H a y o ∧ Q (.bl (!o.isSome)) H
def fDIn (neg : Bool) : FB := fun a b Q => ∃ kvs d k, a = .v d ∧ b = .dct kvs ∧ keyOf d = some k ∧ Q (.v (.bool (if neg then !(dFind kvs k).isSome else (dFind kvs k).isSome)))
theorem din_core {u w : V} {kvs : List (L2.Key × PyData)} {d : PyData} {k : L2.Key} (ra : SlotR K F H u (.v d)) (rb : SlotR K F H w (.dct kvs)) (ek : keyOf d = some k) : ∃ a o, w = .ref a ∧ DGet H a u o ∧ o.isSome = (dFind kvs k).isSome := by
  obtain ⟨p, us, rfl, f, hp, em, r⟩ := rb
  have ew := key_of ra ek
  subst ew
  refine ⟨p, valV us k, rfl, DGet.k hp, ?_⟩
  rcases dct_find em r k with ⟨z1, z2⟩ | ⟨x, d2, z1, z2, _⟩
  · rw [z1, z2]; rfl
  · rw [z1, z2]; rfl
theorem ops_din : OpS K rDIn (fDIn false) := by
  intro F H u w a b Q R fo ra rb ⟨kvs, d, k, e1, e2, ek, q⟩ kk
  subst e1 e2
  obtain ⟨p, o, e, g, eo⟩ := din_core ra rb ek
  refine ⟨p, o, e, g, ?_⟩
  rw [eo]
  exact kk _ _ F H q (fun _ _ z => nomatch z) (.same fo (.bl _))
theorem ops_dnotin : OpS K rDNotIn (fDIn true) := by
  intro F H u w a b Q R fo ra rb ⟨kvs, d, k, e1, e2, ek, q⟩ kk
  subst e1 e2
  obtain ⟨p, o, e, g, eo⟩ := din_core ra rb ek
  refine ⟨p, o, e, g, ?_⟩
  rw [eo]
  exact kk _ _ F H q (fun _ _ z => nomatch z) (.same fo (.bl _))
abbrev rSortedD : List V → Hp → L2.VK → Prop := fun xs H Q => ∃ (a : Addr) (kvs : List (L2.Key × V)) (ks : List Str), xs = [.ref a] ∧ Rd H a (.dK kvs) ∧ kvs.map (·.1) = ks.map Sum.inr ∧ ks.length < 64 ∧
    ∀ ys p, ys.Perm ks → sortedS ys = true → H p = none → Q (.ref p) (upd H p (.lst (ys.map V.str)))
/-- sorted(d), texts for keys -/
def fSortedD : FC := fun ss Q => ∃ kvs ks, ss = [.dct kvs] ∧ kvs.map (·.1) = ks.map Sum.inr ∧ ks.length < 64 ∧ ∀ ys : List Str, ys.Perm ks → sortedS ys = true → Q (.own (ys.map .str))
theorem cs_sortedD : CallS K rSortedD fSortedD := by
  intro F H us ss Q R fo al ⟨kvs, ks, e, e1, h64, q⟩ k
  subst e
  obtain ⟨u, rfl, p, ws, rfl, f, hp, em, r⟩ := ah1 al
  exact ⟨p, ws, ks, rfl, .inl hp, by rw [em, e1], h64, fun ys l pm so hl => k _ _ _ _ (q ys pm so) (fun _ _ z => nomatch z) (.newL fo hl (RA.strs ys))⟩
end
/-- list(range(n)) -/
def vListR (t : TV) : TV := fun ρ Q => t ρ fun s => ∃ n : Nat, s = .v (.int n) ∧ n ≤ 100000 ∧ Q (.own ((List.range n).map fun i => .int (i : Nat)))
section
variable {X : Cx} {f e o i : Expr} {t td ty : TV} {pos : Pos}
theorem ve_listR {κ1 : Nat} (h : ∀ te, PE X e te → PE X f (tLstRg (tRg1 te))) (he : VE X e t κ1) : VE X f (vListR t) κ1 := by
  obtain ⟨te, pe, g⟩ := he
  refine ⟨_, h te pe, fun B F H σ ρ Q R er bq q k => ?_⟩
  refine g B F H σ ρ _ _ er (by omega) q fun s u F' H' cq ⟨n, e1, hn, q⟩ x => ?_
  subst e1
  refine ⟨n, int_of x.sr, ⟨by decide, by decide, by omega, by omega, by omega⟩, fun p hp => k _ _ _ _ (by omega) q ((PRes.newL (ds := (List.range n).map fun i => .int (i : Nat)) x.dm hp ?_).res x.toExt fun _ _ z => nomatch z)⟩
  have e2 : rgV 0 n = ((List.range n).map fun i => ((i : Nat) : Int)).map V.int := by
    unfold rgV
    rw [List.map_map, show ((n : Int) - 0).toNat = n from by omega]
    exact List.map_congr_left fun i _ => by show V.int (0 + (i : Int)) = V.int i; rw [Int.zero_add]
  rw [e2, show (List.range n).map (fun i => PyData.int ((i : Nat) : Int)) = ((List.range n).map fun i => ((i : Nat) : Int)).map PyData.int from by rw [List.map_map]; rfl]
  exact RA.ints _
theorem ve_dget {κ1 κ2 : Nat} (hu : X.A.units + 1 < cLine) (ho : VE X o td κ1) (hi : VE X i ty κ2) (hs : NoSl i) : VE X (.Subscript o i pos) (vBin fDGet td ty) (κ1 + κ2) := by
  obtain ⟨tea, pa, ga⟩ := ho
  obtain ⟨teb, pb, gb⟩ := hi
  exact ⟨_, pe_dget hu pa pb hs, bin_go ops_dget ga gb⟩
theorem vt_din {κ1 κ2 : Nat} (hu : X.A.units + 1 < cLine) (hi : VE X i ty κ1) (ho : VE X o td κ2) (hm : behindInMarks .In o = false) : VT X (.Compare i [.In] [o] pos) (vTest (vBin (fDIn false) ty td)) (κ1 + κ2) := by
  obtain ⟨tea, pa, ga⟩ := hi
  obtain ⟨teb, pb, gb⟩ := ho
  refine ⟨_, pt_cmp (pc_din hu pa pb) hm, fun B F H σ ρ Q R er bq t k => ?_⟩
  refine bin_go ops_din ga gb B F H σ ρ _ (fun x H1 => ∃ d, x = .bl d ∧ R d H1) er (by omega) t fun s u F' H' cq ⟨c, e, q⟩ r => ?_
  subst e
  exact ⟨c, bool_of r.sr, k c F' H' (by omega) q r.toExt⟩
theorem ve_din {κ1 κ2 : Nat} (hu : X.A.units + 1 < cLine) (hi : VE X i ty κ1) (ho : VE X o td κ2) (hm : behindInMarks .In o = false) : VE X (.Compare i [.In] [o] pos) (vBin (fDIn false) ty td) (κ1 + κ2) := by
  obtain ⟨tea, pa, ga⟩ := hi
  obtain ⟨teb, pb, gb⟩ := ho
  exact ⟨_, pe_cmp (pc_din hu pa pb) hm, bin_go ops_din ga gb⟩
theorem vt_dnotin {κ1 κ2 : Nat} (hu : X.A.units + 1 < cLine) (hi : VE X i ty κ1) (ho : VE X o td κ2) (hm : behindInMarks .NotIn o = false) : VT X (.Compare i [.NotIn] [o] pos) (vTest (vBin (fDIn true) ty td)) (κ1 + κ2) := by
  obtain ⟨tea, pa, ga⟩ := hi
  obtain ⟨teb, pb, gb⟩ := ho
  refine ⟨_, pt_cmp (pc_dnotin hu pa pb) hm, fun B F H σ ρ Q R er bq t k => ?_⟩
  refine bin_go ops_dnotin ga gb B F H σ ρ _ (fun x H1 => ∃ d, x = .bl d ∧ R d H1) er (by omega) t fun s u F' H' cq ⟨c, e, q⟩ r => ?_
  subst e
  exact ⟨c, bool_of r.sr, k c F' H' (by omega) q r.toExt⟩
end
/-- a, b = [], e: the first one a list of one's own -/
theorem vs_parO {κ1 : Nat} {X : Cx} {i j : Nat} {st : Stmt} {es : List Expr} {t : TVs} (h : ∀ ta, PA X es ta → PS X st (tPar i j ta)) (ha : VA X es t κ1) : VS X st (vParO i j t) κ1 := by
  obtain ⟨ta, pa, g⟩ := ha
  refine ⟨_, h ta pa, fun B F H σ ρ E D er bq t k => ?_⟩
  refine g B F H σ ρ _ _ er (by omega) t fun ss us F' H' cq ⟨ds, b, e, q⟩ x al => ?_
  subst e
  match us, al with
  | [u, w], ⟨r1, o1, r2, _, _⟩ =>
    have e3 := er.set (s := .own ds) ⟨x, r1, o1⟩ (fun _ _ z => nomatch z) i
    have e4 := e3.set (s := .v b) ⟨e3.refl, r2, trivial⟩ (fun _ _ z => nomatch z) j
    exact ⟨u, w, rfl, k.nx F' H' _ _ (by omega) e4 q⟩
theorem s_parO {i j : Nat} {t : TVs} {E : VEnds} {ρ : VL.Env} : vParO i j t E ρ = t ρ fun ss => ∃ ds b, ss = [.own ds, .v b] ∧ E.nx ((ρ.set i (.own ds)).set j (.v b)) := (Eq.refl _).trans (Eq.refl _)
theorem parO_ex {ds : List PyData} {b : PyData} {P : List PyData → PyData → Prop} : (∃ es c, [SV.own ds, SV.v b] = [.own es, .v c] ∧ P es c) ↔ P ds b :=
  ⟨fun ⟨es, c, e, h⟩ => by
    simp only [List.cons.injEq, SV.ow.injEq, true_and, SV.v.injEq, and_true] at e
    rw [e.1, e.2]; exact h, fun h => ⟨ds, b, rfl, h⟩⟩
/-! ### how these are reckoned -/
section
variable {kvs : List (L2.Key × PyData)} {ss : List SV} {d : PyData} {Q : SV → Prop} {i : Int} {z : Str} {ds : List PyData}
theorem hand_dct : SV.hand (.dct kvs) = some (.dct kvs) := (Eq.refl _).trans (Eq.refl _)
theorem lend_dct : SV.lend (.dct kvs) = .dct kvs := (Eq.refl _).trans (Eq.refl _)
theorem hands_dct : hands (.dct kvs :: ss) = (hands ss).map (SV.dct kvs :: ·) := by
  show (match SV.hand (.dct kvs), hands ss with | some t, some ts => some (t :: ts) | _, _ => none) = _
  rcases hands ss <;> rfl
theorem m_dgetS : fDGet (.dct kvs) (.v (.str z)) Q = ∃ v, dFind kvs (.inr z) = some v ∧ Q (.v v) := by simp [fDGet, keyOf]
theorem m_dgetI : fDGet (.dct kvs) (.v (.int i)) Q = ∃ v, dFind kvs (.inl i) = some v ∧ Q (.v v) := by simp [fDGet, keyOf]
theorem m_dinS {neg : Bool} : fDIn neg (.v (.str z)) (.dct kvs) Q = Q (.v (.bool (if neg then !(dFind kvs (.inr z)).isSome else (dFind kvs (.inr z)).isSome))) := by simp [fDIn, keyOf]
theorem m_dinI {neg : Bool} : fDIn neg (.v (.int i)) (.dct kvs) Q = Q (.v (.bool (if neg then !(dFind kvs (.inl i)).isSome else (dFind kvs (.inl i)).isSome))) := by simp [fDIn, keyOf]
theorem m_listR {t : TV} {ρ : VL.Env} : vListR t ρ Q = t ρ fun s => ∃ n : Nat, s = .v (.int n) ∧ n ≤ 100000 ∧ Q (.own ((List.range n).map fun i => .int (i : Nat))) := (Eq.refl _).trans (Eq.refl _)
theorem m_lc {it : TVl} {g : TGt} {c : TVb} {t : TV} {vs : List Nat} {ρ : VL.Env} : vLc it g c t vs ρ Q = it ρ fun ds => cLoop g c t (wipeV ρ vs) ds [] fun acc => Q (.own acc) := (Eq.refl _).trans (Eq.refl _)
theorem m_lc2 {it it1 : TVl} {g g1 : TGt} {c c1 : TVb} {t : TV} {vs vs1 : List Nat} {ρ : VL.Env} : vLc2 it g c it1 g1 c1 t vs vs1 ρ Q = it ρ fun ds => cLoop2 g c it1 g1 c1 t vs1 (wipeV ρ vs) ds [] fun acc => Q (.own acc) := (Eq.refl _).trans (Eq.refl _)
theorem m_seqI {t : TV} {ρ : VL.Env} {R : List PyData → Prop} : vSeqI t ρ R = t ρ fun s => ∃ ds, s.items = some ds ∧ R ds := (Eq.refl _).trans (Eq.refl _)
end
end VL
namespace VL
open PySem PySem.Spec PyProof.Rows L2 VG
mutual
def ms : PyData → Nat
  | .none => 10
  | .bool _ => 10
  | .int _ => 2000
  | .str x => 10 * x.length + 10
  | .list xs => msAll xs + 10
  | .tuple xs => msAll xs + 10
  | .dict _ => 10
def msAll : List PyData → Nat
  | [] => 0
  | x :: xs => ms x + msAll xs
end
mutual
theorem ms_facts : ∀ (d : PyData) {b : Nat}, b ≤ 1900 → chk b d = true → d.showable = true ∧ d.hasDict = false ∧ wt d + 2 ≤ ms d
  | .none, _, _, _ => ⟨rfl, rfl, by show 4 + 2 ≤ 10; decide⟩
  | .bool _, _, _, _ => ⟨rfl, rfl, by show 5 + 2 ≤ 10; decide⟩
  | .int i, b, hb, h => by
    simp only [chk, decide_eq_true_eq] at h
    exact ⟨showI (Nat.lt_of_lt_of_le h (Nat.pow_le_pow_right (by decide) hb)), rfl, by show 1921 + 2 ≤ 2000; decide⟩
  | .str x, _, _, h => by
    simp only [chk, strG, List.all_eq_true, decide_eq_true_eq] at h
    have := PySem.StrLaws.reprText_len x fun c hc => Nat.lt_of_lt_of_le (h c hc) (by decide)
    refine ⟨rfl, rfl, ?_⟩
    show (reprText x).length + 2 ≤ 10 * x.length + 10
    omega
  | .list xs, _, hb, h => by
    obtain ⟨h1, h2, h3⟩ := msAll_facts xs hb h
    exact ⟨h1, h2, by show wtAll xs + 3 + 2 ≤ msAll xs + 10; omega⟩
  | .tuple xs, _, hb, h => by
    obtain ⟨h1, h2, h3⟩ := msAll_facts xs hb h
    exact ⟨h1, h2, by show wtAll xs + 3 + 2 ≤ msAll xs + 10; omega⟩
  | .dict _, _, _, h => by cases h
theorem msAll_facts : ∀ (ds : List PyData) {b : Nat}, b ≤ 1900 → chkAll b ds = true → PyData.showableAll ds = true ∧ PyData.hasDictAll ds = false ∧ wtAll ds ≤ msAll ds
  | [], _, _, _ => ⟨rfl, rfl, Nat.le_refl _⟩
  | d :: ds, b, hb, h => by
    simp only [chkAll, Bool.and_eq_true] at h
    obtain ⟨a1, a2, a3⟩ := ms_facts d hb h.1
    obtain ⟨b1, b2, b3⟩ := msAll_facts ds hb h.2
    exact ⟨by simp only [PyData.showableAll, a1, b1]; rfl, by simp only [PyData.hasDictAll, a2, b2]; rfl, by show wt d + 2 + wtAll ds ≤ ms d + msAll ds; omega⟩
end
/-- of bounded ints, weight and depth -/
structure Gm (b c n : Nat) (d : PyData) : Prop where
  ck : chk b d = true
  sz : ms d ≤ c
  dp : d.depth ≤ n
structure GmA (b c n : Nat) (ds : List PyData) : Prop where
  ck : chkAll b ds = true
  sz : msAll ds ≤ c
  dp : PyData.depthAll ds ≤ n
section
variable {b c n b' c' n' : Nat} {d : PyData} {xs ys : List PyData}
theorem Gm.shw (g : Gm b c n d) (hb : b ≤ 1900) (hc : c ≤ 16000000) (hn : n ≤ 64) : Shw d := by
  obtain ⟨h1, h2, h3⟩ := ms_facts d hb g.ck
  have h4 := g.sz
  exact shw_of h1 h2 (Nat.le_trans g.dp hn) (by omega)
theorem Gm.mono (g : Gm b c n d) (h1 : b ≤ b') (h2 : c ≤ c') (h3 : n ≤ n') : Gm b' c' n' d := ⟨chk_mono h1 d g.ck, Nat.le_trans g.sz h2, Nat.le_trans g.dp h3⟩
theorem GmA.mono (g : GmA b c n xs) (h1 : b ≤ b') (h2 : c ≤ c') (h3 : n ≤ n') : GmA b' c' n' xs := ⟨chkAll_mono h1 xs g.ck, Nat.le_trans g.sz h2, Nat.le_trans g.dp h3⟩
theorem msAll_append : ∀ {xs ys : List PyData}, msAll (xs ++ ys) = msAll xs + msAll ys
  | [], ys => by simp [msAll]
  | x :: xs, ys => by simp only [List.cons_append, msAll, msAll_append (xs := xs)]; omega
theorem GmA.append (g : GmA b c n xs) (h : GmA b c' n ys) : GmA b (c + c') n (xs ++ ys) :=
  ⟨by rw [chkAll_append, g.ck, h.ck]; rfl, by rw [msAll_append]; have := g.sz; have := h.sz; omega, by rw [depthAll_append]; have := g.dp; have := h.dp; omega⟩
theorem GmA.cons (g : Gm b c n d) (h : GmA b c' n xs) : GmA b (c + c') n (d :: xs) := by
  refine ⟨?_, ?_, ?_⟩
  · simp only [chkAll, g.ck, h.ck]; rfl
  · have := g.sz; have := h.sz; simp only [msAll]; omega
  · have := g.dp; have := h.dp; simp only [PyData.depthAll]; omega
theorem GmA.nil : GmA b 0 n [] := ⟨rfl, Nat.le_refl _, by simp [PyData.depthAll]⟩
theorem GmA.one (g : Gm b c n d) : GmA b c n [d] := GmA.cons g GmA.nil
theorem GmA.head (g : GmA b c n (d :: xs)) : Gm b c n d := by
  have h1 := g.ck
  have h2 := g.sz
  have h3 := g.dp
  simp only [chkAll, Bool.and_eq_true] at h1
  simp only [msAll] at h2
  simp only [PyData.depthAll] at h3
  exact ⟨h1.1, by omega, by omega⟩
theorem GmA.tail (g : GmA b c n (d :: xs)) : GmA b c n xs := by
  have h1 := g.ck
  have h2 := g.sz
  have h3 := g.dp
  simp only [chkAll, Bool.and_eq_true] at h1
  simp only [msAll] at h2
  simp only [PyData.depthAll] at h3
  exact ⟨h1.2, by omega, by omega⟩
theorem GmA.mem : ∀ {xs : List PyData} (_ : GmA b c n xs), d ∈ xs → Gm b c n d
  | x :: xs, g, h => by
    rcases List.mem_cons.mp h with rfl | h
    · exact g.head
    · exact GmA.mem g.tail h
theorem GmA.all : ∀ {xs : List PyData}, (∀ d ∈ xs, Gm b c n d) → GmA b (xs.length * c) n xs
  | [], _ => GmA.nil.mono (Nat.le_refl _) (Nat.zero_le _) (Nat.le_refl _)
  | x :: xs, h => (GmA.cons (h x (by simp)) (GmA.all fun d hd => h d (by simp [hd]))).mono (Nat.le_refl _) (by rw [List.length_cons, Nat.add_mul]; omega) (Nat.le_refl _)
theorem Gm.tup (g : GmA b c n xs) : Gm b (c + 10) (n + 1) (.tuple xs) := ⟨g.ck, by have := g.sz; show msAll xs + 10 ≤ _; omega, by have := g.dp; simp only [PyData.depth]; omega⟩
theorem Gm.lst (g : GmA b c n xs) : Gm b (c + 10) (n + 1) (.list xs) := ⟨g.ck, by have := g.sz; show msAll xs + 10 ≤ _; omega, by have := g.dp; simp only [PyData.depth]; omega⟩
theorem Gm.untup (g : Gm b c n (.tuple xs)) : GmA b c n xs := by
  have h1 : chkAll b xs = true := g.ck
  have h2 : msAll xs + 10 ≤ c := g.sz
  have h3 := g.dp
  simp only [PyData.depth] at h3
  exact ⟨h1, by omega, by omega⟩
theorem Gm.int {i : Int} (h : i.natAbs < 2 ^ b) : Gm b 2000 n (.int i) := ⟨decide_eq_true h, Nat.le_refl _, by simp [PyData.depth]⟩
theorem Gm.bool {x : Bool} : Gm b 10 n (.bool x) := ⟨rfl, Nat.le_refl _, by simp [PyData.depth]⟩
theorem Gm.none : Gm b 10 n .none := ⟨rfl, Nat.le_refl _, by simp [PyData.depth]⟩
theorem Gm.str {x : Str} (h : strG x = true) : Gm b (10 * x.length + 10) n (.str x) := ⟨h, Nat.le_refl _, by simp [PyData.depth]⟩
theorem Gm.shaped (g : Gm b c n d) (hn : n ≤ 64) : SeqAt.shaped d = true := by
  unfold SeqAt.shaped
  rw [lay_of d g.ck, decide_eq_true (Nat.le_trans g.dp hn)]; rfl
end
/-! ### texts of ints -/
theorem chars_inj : ∀ {l m : List Char}, l.map Char.toNat = m.map Char.toNat → l = m
  | [], [], _ => rfl
  | [], _ :: _, e => by cases e
  | _ :: _, [], e => by cases e
  | a :: l, b :: m, e => by
    simp only [List.map_cons, List.cons.injEq] at e
    rw [Char.toNat_inj.mp e.1, chars_inj e.2]
theorem shown_int_inj {i j : Int} (h : (PyData.int i).shown = (PyData.int j).shown) : i = j := by
  rw [PyData.shown_int, PyData.shown_int] at h
  have h2 := congrArg (fun s : Str => s.cps.toList) h
  rw [signs_ofString, signs_ofString] at h2
  have h3 : (toString i : String).toList = (toString j : String).toList := chars_inj h2
  have h4 : (toString i : String) = toString j := String.toList_inj.mp h3
  rw [Int.toString_eq_repr, Int.toString_eq_repr] at h4
  exact Int.repr_inj.mp h4
theorem shown_int_ne {i : Int} {z : Str} {k : Nat} (hk : k ≠ 45 ∧ (k < 48 ∨ 57 < k)) (h : k ∈ z.cps.toList) : (PyData.int i).shown ≠ z := fun e => by
  have := shown_int_free' hk i
  rw [e] at this
  exact this h
/-! ### sorted texts -/
theorem risingS_pw : ∀ {l : List Str} {p : Str}, risingS p l = true → (p :: l).Pairwise fun a b : Str => a.cps.toList ≤ b.cps.toList
  | [], p, _ => by simp
  | x :: l, p, h => by
    unfold risingS at h
    rw [Bool.and_eq_true, Bool.not_eq_true', ltCps_eq, decide_eq_false_iff_not] at h
    have hx : p.cps.toList ≤ x.cps.toList := List.not_lt.mp h.1
    have ih := risingS_pw h.2
    refine List.pairwise_cons.mpr ⟨fun y hy => ?_, ih⟩
    rcases List.mem_cons.mp hy with rfl | hy
    · exact hx
    · exact List.le_trans hx ((List.pairwise_cons.mp ih).1 y hy)
theorem sortedS_pw : ∀ {l : List Str}, sortedS l = true → l.Pairwise fun a b : Str => a.cps.toList ≤ b.cps.toList
  | [], _ => List.Pairwise.nil
  | x :: l, h => risingS_pw h
theorem sorted_uniq {ys ks : List Str} (p : ys.Perm ks) (s : sortedS ys = true) (t : sortedS ks = true) : ys = ks := by
  refine List.Perm.eq_of_pairwise (le := fun a b : Str => a.cps.toList ≤ b.cps.toList) (fun a b _ _ h1 h2 => ?_) (sortedS_pw s) (sortedS_pw t) p
  have e := List.le_antisymm h1 h2
  cases a
  cases b
  simp only [Str.mk.injEq]
  exact Array.toList_inj.mp e
/-! ### comprehensions -/
section
variable {g : TGt} {c : TVb} {t : TV} {w : VL.Env}
theorem cloop_fm (f : PyData → Option PyData) : ∀ {ds acc : List PyData} {Q : List PyData → Prop},
    (∀ d ∈ ds, ∀ (K1 : PyData → Prop) (K2 : Prop), (∀ z, f d = some z → K1 z) → (f d = none → K2) → g d w fun ρ' => c ρ' fun b => if b = true then t ρ' fun s => ∃ z, datasIn [s] = some [z] ∧ K1 z else K2) →
    acc.length + ds.length ≤ 100000 → Q (acc ++ ds.filterMap f) → cLoop g c t w ds acc Q
  | [], acc, Q, _, _, q => by rwa [show acc ++ [].filterMap f = acc from List.append_nil acc] at q
  | d :: ds, acc, Q, h, hl, q => by
    rw [List.length_cons] at hl
    refine h d (by simp) (fun z => acc.length < 100000 ∧ cLoop g c t w ds (acc ++ [z]) Q) (cLoop g c t w ds acc Q) (fun z e => ⟨by omega, ?_⟩) fun e => ?_
    · refine cloop_fm f (fun d hd => h d (by simp [hd])) (by rw [List.length_append]; show acc.length + 1 + ds.length ≤ _; omega) ?_
      rw [List.filterMap_cons, e] at q
      rwa [List.append_assoc]
    · refine cloop_fm f (fun d hd => h d (by simp [hd])) (by omega) ?_
      rwa [List.filterMap_cons, e] at q
theorem cloop_map (f : PyData → PyData) {ds : List PyData} {Q : List PyData → Prop}
    (h : ∀ d ∈ ds, ∀ (K1 : PyData → Prop) (K2 : Prop), K1 (f d) → g d w fun ρ' => c ρ' fun b => if b = true then t ρ' fun s => ∃ z, datasIn [s] = some [z] ∧ K1 z else K2)
    (hl : ds.length ≤ 100000) (q : Q (ds.map f)) : cLoop g c t w ds [] Q := by
  refine cloop_fm (fun d => some (f d)) (fun d hd K1 K2 k1 _ => h d hd K1 K2 (k1 _ rfl)) (by simpa using hl) ?_
  rw [List.nil_append, show (fun d => some (f d)) = some ∘ f from rfl, List.filterMap_eq_map]
  exact q
theorem cloop_inv {I : Nat → List PyData → Prop} {T : Nat} : ∀ {ds acc : List PyData} {i : Nat} {Q : List PyData → Prop},
    (∀ d ∈ ds, ∀ i acc, i < T → I i acc → ∀ (K1 : PyData → Prop) (K2 : Prop), (∀ z, I (i + 1) (acc ++ [z]) → acc.length < 100000 ∧ K1 z) → (I (i + 1) acc → K2) → g d w fun ρ' => c ρ' fun b => if b = true then t ρ' fun s => ∃ z, datasIn [s] = some [z] ∧ acc.length < 100000 ∧ K1 z else K2) →
    (∀ i acc, i < T → I i acc → acc.length < 100000) → i + ds.length = T → I i acc → (∀ acc, I T acc → Q acc) → cLoop g c t w ds acc Q
  | [], acc, i, Q, _, _, hT, hi, q => q acc (by rw [← hT]; exact hi)
  | d :: ds, acc, i, Q, h, hz, hT, hi, q => by
    rw [List.length_cons] at hT
    refine h d (by simp) i acc (by omega) hi (fun z => cLoop g c t w ds (acc ++ [z]) Q) (cLoop g c t w ds acc Q) (fun z hz' => ⟨hz i acc (by omega) hi, ?_⟩) fun hz' => ?_
    · exact cloop_inv (fun d hd => h d (by simp [hd])) hz (by omega) hz' q
    · exact cloop_inv (fun d hd => h d (by simp [hd])) hz (by omega) hz' q
end
end VL
namespace VL
open PySem PySem.Spec PyProof.Rows L2 VG

/-! ### xs[k] = v -/
theorem vals_set : ∀ {xs : List V} {us : List Value} (_ : Vals xs us) (j : Nat) {x : V} {u : Value} (_ : RelV x u), Vals (xs.set j x) (us.set j u)
  | _, _, .nil, _, _, _, _ => .nil
  | _, _, .cons _ b, 0, _, _, r => .cons r b
  | _, _, .cons a b, j + 1, _, _, r => .cons a (vals_set b j r)
section
variable {prog : Program} {w : World} {A : Around} {E : Value → Shared → Prop} {s : Shared}
theorem lput_at {l : Addr} {its : Array Value} {n : Nat} {k : Int} {t : Tok} {v : Value} {Q : Unit → Shared → Prop} (e : s.heap.get? l = some { cls := .type "list", data := .seq its n }) (k0 : 0 ≤ k) (hj : k < its.size) (hf : k < 2 ^ 63)
    (q : Q () { s with heap := s.heap.update l (Obj.mapSeq (·.setIfInBounds k.toNat v)) }) : wpAny (model prog w) A (setItem (.ref l) (.int k t) v) Q E s := by
  have il : s.heap.IsList l its := PySem.IsL.isList e
  unfold setItem
  try with_reducible refine wpAny_holding ?_
  first | refine wpAny_bind (wpAny_pure ?_) | skip
  refine wpAny_bind (wpAny_sequenceKey il.typeIs (by decide) ?_)
  have ent := PySem.F.entry_list_setitem
  refine wpAny_bind (wpAny_callSpecial?_slot (name := Str.ofString "__setitem__") il.typeIs PySem.F.slot_list_setitem (wpAny_call_entry PySem.F.slot_list_setitem il.typeIs ent ?_ (PySem.F.args_list_setitem_3 _ _ _)))
  have fi := PySem.fitsIndex_of k0 hf
  show wpAny _ _ (Builtin.List.listSubscript? (.int k t) >>= _) _ _ s
  refine wpAny_bind (PySem.wpAny_listSubscript_int fi ?_)
  clear fi hf
  obtain ⟨j, rfl⟩ := Int.eq_ofNat_of_zero_le k0
  have hj2 : j < its.size := by omega
  show wpAny _ _ ((seqItemAt l j >>= fun r => pure (r.map (j, ·))) >>= _) _ _ s
  refine wpAny_bind (wpAny_bind (wpAny_seqItemAt e rfl (wpAny_pure ?_)))
  rw [Array.getElem?_eq_getElem hj2]
  show wpAny _ _ (setSeqItemAt l j v >>= _) _ _ s
  refine wpAny_bind (wpAny_setSeqItemAt e rfl ?_)
  first | exact wpAny_pure ⟨.none, rfl, wpAny_pure q⟩ | exact wpAny_bind (wpAny_pure (wpAny_pure ⟨.none, rfl, wpAny_pure q⟩))
end
section
variable {X : Cx} {to ti tv : TE} {o i value : Expr} {pos pos' : Pos}
def sLPut (td ty tv : TE) : TS := fun D σ H => tv σ H fun v H1 => td σ H1 fun x H2 => ty σ H2 fun y H3 => ∃ (a : Addr) (xs : List V) (j : Nat), x = .ref a ∧ H3 a = some (.lst xs) ∧ y = .int (j : Nat) ∧ j < xs.length ∧ D.nx σ (upd H3 a (.lst (xs.set j v)))
theorem ps_lput (ho : PE X o to) (hi : PE X i ti) (hv : PE X value tv) (hs : swapsWith value (some (.Subscript o i pos')) pos.line X.env = pure false) : PS X (.Assign [.Subscript o i pos'] value pos) (sLPut to ti tv) := by
  refine ⟨fun pins s σ H D I h => ?_⟩
  refine wpAny_Assign_Subscript (thn (hv.run pins s σ H _ I h) fun r s1 p1 => ?_) hs
  obtain ⟨v, H1, I1, rv, q1⟩ := p1
  refine thn (ho.run pins s1 σ H1 _ I1 q1) fun u s2 p2 => ?_
  obtain ⟨x, H2, I2, rx, q2⟩ := p2
  refine thn (hi.run pins s2 σ H2 _ I2 q2) fun iv s3 p3 => ?_
  obtain ⟨y, H3, I3, ry, a, xs, j, ex, ea, ey, hj, q3⟩ := p3
  subst ex ey
  obtain rfl : u = Value.ref a := rx
  obtain ⟨t, rfl⟩ := ry
  obtain ⟨z, its, n, rr, hl, e⟩ := I3.lstM ea
  have z2 : xs.length < 9223372036854775808 := Nat.lt_of_le_of_lt z (by decide)
  have z3 : (j : Int) < 2 ^ 63 := by omega
  refine lput_at e (by omega) (by rw [List.size_toArray]; omega) z3 ?_
  refine ⟨σ, _, I3.lset (its' := its.set j r) ea e (by simp) ?_ (by rw [List.length_set]; exact z), q3⟩
  exact vals_set rr j rv
end
/-! ### a feed of four places -/
section
variable {X : Cx} {st : Stmt} {e : Expr} {t : TV} {i : Nat}
/-- [list(..), 0, 0, 0] -/
def vTap (t : TVs) : TV := fun ρ Q => t ρ fun ss => ∃ ns : List Int, ss = [.own (ns.map .int), .v (.int 0), .v (.int 0), .v (.int 0)] ∧ ∀ a, Q (.cell a ⟨true, ns⟩)
theorem ve_tap {κ1 : Nat} {es : List Expr} {t : TVs} {pos : Pos} (h : VA X es t κ1) : VE X (.List es pos) (vTap t) κ1 := by
  obtain ⟨ta, pa, g⟩ := h
  refine ⟨_, pe_lst pa, fun B F H σ ρ Q R er bq t k => ?_⟩
  refine g B F H σ ρ _ _ er (by omega) t fun ss us F1 H1 cq ⟨ns, e, q⟩ x a => ?_
  subst e
  obtain ⟨F2, ce, x2, ra⟩ := data_all (ds := [.list (ns.map .int), .int 0, .int 0, .int 0]) x a rfl
  match us, ra with
  | [u1, u2, u3, u4], .cons r1 (.cons r2 (.cons r3 (.cons r4 .nil))) =>
    cases r1 with
    | lst f hu r =>
      rename_i c xs
      have exs : xs = ns.map V.int := data_ints r
      subst exs
      cases r2
      cases r3
      cases r4
      refine ⟨by show 4 ≤ sizeLine; decide, fun p hp => ?_⟩
      have nf : ¬ F2 p := fun z => by
        obtain ⟨o, w, _⟩ := x2.dm p z
        rw [hp] at w; cases w
      have nc : c ≠ p := fun z => nf (by rw [← z]; exact f)
      have h0 : H p = none := by
        by_cases z : H p = none
        · exact z
        · exact absurd hp (x2.st.ex p z)
      refine k _ _ F2 _ (by omega) (q p) ⟨x2.pure (Stp.new hp) (x2.dm.new hp), ⟨rfl, nf, c, 0, 0, 0, upd_same, f, ?_, fun _ => ⟨by decide, by omega⟩⟩, .inr h0⟩
      rw [upd_ne nc]; exact hu
/-- a, b, c, d = feed; feed[3] = d + 1 -/
def vTapUT (i : Nat) (g : TGts) (t : TV) : TVS := fun E ρ => ∃ (a : Addr) (ns : List Int), ρ[i]? = some (.cell a ⟨true, ns⟩) ∧ ∀ x y z : Int, 0 ≤ z → z ≤ 1099511627776 →
  g [.list (ns.map .int), .int x, .int y, .int z] ρ fun ρ' => ρ'[i]? = some (.cell a ⟨true, ns⟩) ∧ t ρ' fun s => s = .v (.int (z + 1)) ∧ E.nx ρ'
theorem vss_tapUT {κ κ0 : Nat} {is : List Nat} {es : List Expr} {k : Nat} {pos : Pos} {g : TGts} {st2 : Stmt} {rest : List Stmt} {u : TVS} (hc : X.calm = true) (h : ∀ te tg', PE X e te → PG X (.Tuple es k pos) tg' → PS X st (tAsg te tg')) (he : PE X e (tVar i)) (hg : VTgs X is es g)
    (hn : (assignEach es X.env).length = 4) (hst : (assignEach es X.env).findIdx? (·.1) = none) {f : Expr} (h2 : ∀ te, PE X f te → PS X st2 (sLPut (tVar i) (tC (.int (3 : Nat))) te)) (hf : VE X f t κ0) (hr : VSs X rest u κ) (h0 : κ0 = 0 := by omega) : VSs X (st :: st2 :: rest) (vSeq (vTapUT i g t) u) (1 + κ) := by
  subst h0
  obtain ⟨gt, pg, gg⟩ := hg
  obtain ⟨te, pe, ge⟩ := hf
  obtain ⟨ur, pr, gr⟩ := hr
  refine ⟨_, pss_cons (h _ _ he (pg_unl hc pg hn hst)) (pss_cons (h2 te pe) pr), fun B F H σ ρ E D er bq ⟨a, ns, e, q⟩ k => ?_⟩
  obtain ⟨h1, c⟩ := er.cellAt e
  obtain ⟨nf, c', j, l, n, e1, e2, e3, cb⟩ := id c
  have hL : LIM = 1099511627776 := rfl
  obtain ⟨n0, n1⟩ := cb rfl
  refine ⟨.ref a, h1, a, [.ref c', .int j, .int l, .int n], rfl, SqL.of e1, rfl, ?_⟩
  refine gg B F H σ ρ _ _ _ _ er (.cons (.lst e2 e3 (RA.ints ns)) (.cons (.int j) (.cons (.int l) (.cons (.int n) .nil)))) (q j l n n0 (by omega)) fun σ' ρ' er' _ q' => ?_
  obtain ⟨e', q'⟩ := q'
  refine ge B F H σ' ρ' _ _ er' (by omega) q' fun s u F1 H1 c1 qs x => ?_
  obtain ⟨es, q1⟩ := qs
  subst es
  have er1 := er'.step x.toExt
  rw [int_of x.sr]
  obtain ⟨h1', c2⟩ := er1.cellAt e'
  obtain ⟨nf', d', a1, a2, a3, b1, b2, b3, b4⟩ := id c2
  have hck := x.st.ck
  refine ⟨.ref a, h1', a, _, 3, rfl, b1, rfl, by show 3 < 4; decide, ?_⟩
  have er2 := er1.step (Ext.cellw er1 e' b2 b3 (j := a1) (l := a2) (n := n + 1) 1 fun _ => ⟨by omega, by omega⟩)
  exact gr B ⟨F1.fr, F1.ck + 1⟩ _ σ' ρ' E D er2 (by show F1.ck + 1 + κ ≤ LIM; omega) q1 (k.mono (by show F1.ck + 1 + κ ≤ _; omega))
/-- feed[j] = e, j one of 1, 2 -/
def vTapSet (i : Nat) (t : TV) : TVS := fun E ρ => ∃ (a : Addr) (ns : List Int), ρ[i]? = some (.cell a ⟨true, ns⟩) ∧ t ρ fun s => isI s fun _ => E.nx ρ
theorem vs_tapSet {κ1 : Nat} {j : Nat} (h : ∀ te, PE X e te → PS X st (sLPut (tVar i) (tC (.int (j : Nat))) te)) (he : VE X e t κ1) (hj : j = 1 ∨ j = 2) : VS X st (vTapSet i t) κ1 := by
  obtain ⟨te, pe, g⟩ := he
  refine ⟨_, h te pe, fun B F H σ ρ E D er bq ⟨a, ns, e, t⟩ k => ?_⟩
  refine g B F H σ ρ _ _ er bq t fun s u F1 H1 cq ⟨m, e1, q⟩ x => ?_
  subst e1
  have er1 := er.step x.toExt
  rw [int_of x.sr]
  obtain ⟨h1, c⟩ := er1.cellAt e
  obtain ⟨nf, c', a1, a2, a3, e1, e2, e3, cb⟩ := id c
  have fin : ∀ j' l' : Int, ([V.ref c', .int a1, .int a2, .int a3].set j (.int m)) = [V.ref c', .int j', .int l', .int a3] →
      tVar i σ H1 (fun x H2 => tC (.int (j : Nat)) σ H2 fun y H3 => ∃ (a : Addr) (xs : List V) (j0 : Nat), x = .ref a ∧ H3 a = some (.lst xs) ∧ y = .int (j0 : Nat) ∧ j0 < xs.length ∧ D.nx σ (upd H3 a (.lst (xs.set j0 (.int m))))) := fun j' l' d => by
    refine ⟨.ref a, h1, a, _, j, rfl, e1, rfl, by rcases hj with rfl | rfl <;> (show _ < 4; decide), ?_⟩
    rw [d]
    exact k.nx F1 _ σ ρ (by omega) (er1.step (Ext.cellw er1 e e2 e3 (j := j') (l := l') (n := a3) 0 cb)) q
  rcases hj with rfl | rfl
  · exact fin m a2 rfl
  · exact fin a1 m rfl
theorem s_tap {t : TVs} {ρ : VL.Env} {Q : SV → Prop} : vTap t ρ Q = t ρ fun ss => ∃ ns : List Int, ss = [.own (ns.map .int), .v (.int 0), .v (.int 0), .v (.int 0)] ∧ ∀ a, Q (.cell a ⟨true, ns⟩) := (Eq.refl _).trans (Eq.refl _)
theorem s_tapUT {g : TGts} {E : VEnds} {ρ : VL.Env} : vTapUT i g t E ρ = ∃ (a : Addr) (ns : List Int), ρ[i]? = some (.cell a ⟨true, ns⟩) ∧ ∀ x y z : Int, 0 ≤ z → z ≤ 1099511627776 →
  g [.list (ns.map .int), .int x, .int y, .int z] ρ fun ρ' => ρ'[i]? = some (.cell a ⟨true, ns⟩) ∧ t ρ' fun s => s = .v (.int (z + 1)) ∧ E.nx ρ' := (Eq.refl _).trans (Eq.refl _)
theorem s_tapSet {E : VEnds} {ρ : VL.Env} : vTapSet i t E ρ = ∃ (a : Addr) (ns : List Int), ρ[i]? = some (.cell a ⟨true, ns⟩) ∧ t ρ fun s => isI s fun _ => E.nx ρ := (Eq.refl _).trans (Eq.refl _)
end
/-! ### sorted(data) -/
section
variable {X : Cx} {K : PySem.W.Frag}
abbrev Srts (ds : List PyData) : List PyData := ds.mergeSort (PySem.W.dataLe false id)
def rSortedA (K : PySem.W.Frag) : List V → Hp → L2.VK → Prop := fun xs H Q => ∃ (P : V → PyData → Prop) (a : Addr) (vs : List V) (ds : List PyData), xs = [.ref a] ∧ SqL K H a vs ∧ PySem.W.EachIs P vs ds ∧ DpAll K H vs ds ∧ PySem.W.AllAlike ds ∧ PySem.W.Sortable ds ∧ (∀ d ∈ ds, d.depth ≤ 60) ∧
  ∀ ys p, PySem.W.EachIs P ys (Srts ds) → H p = none → Q (.ref p) (upd H p (.lst ys))
theorem each_vals {P : V → PyData → Prop} : ∀ {vs : List V} {us : List Value} {ds : List PyData}, Vals vs us → PySem.W.EachIs P vs ds → PySem.W.EachIs (fun u d => ∃ x, RelV x u ∧ P x d) us ds
  | _, _, _, .nil, .nil => .nil
  | _, _, _, .cons a b, .cons c d => .cons ⟨_, a, c⟩ (each_vals b d)
theorem vals_each {P : V → PyData → Prop} : ∀ {us : List Value} {ds : List PyData}, PySem.W.EachIs (fun u d => ∃ x, RelV x u ∧ P x d) us ds → ∃ vs, Vals vs us ∧ PySem.W.EachIs P vs ds
  | _, _, .nil => ⟨[], .nil, .nil⟩
  | _, _, .cons ⟨x, a, b⟩ r => by
    obtain ⟨vs, h1, h2⟩ := vals_each r
    exact ⟨x :: vs, .cons a h1, .cons b h2⟩
theorem each_reads {h : Heap} : ∀ {us : List Value} {ds : List PyData} {as : List Addr}, ReadsAll h us ds as → PySem.W.EachIs (fun v d => ∃ as, Reads h v (id d) as) us ds
  | _, _, _, .nil => .nil
  | _, _, _, .cons a b => .cons ⟨_, a⟩ (each_reads b)
theorem cr_sortedA {k : Nat} (hr : Room k X.A) : CallR X (.builtin "sorted") (rSortedA X.K) := by
  intro pins s σ H xs us Q I r h
  obtain ⟨P, a, vs, ds, rfl, hs, ep, dp, al, so, dl, q⟩ := h
  obtain ⟨its, rv, hl, hz⟩ := I.list hs
  obtain ⟨u, rfl, ru⟩ := vals1 r
  obtain rfl : u = Value.ref a := ru
  obtain ⟨as, rd⟩ := Dp.readsAll I ds vs its dp rv
  have lens : its.length = ds.length := by
    have := (each_vals rv ep).length
    exact this
  have hu := hu64 hr
  refine PySem.W.sorted_data (enc := id) (bs := ds) (R := fun u d => ∃ x, RelV x u ∧ P x d) hl.isList (each_vals rv ep) (each_reads rd) (by rw [List.map_id]; exact al) (by rw [List.map_id]; exact so) (by rw [← lens, ← rv.length]; exact hz) (fun d hd => ?_) fun out ho er => ?_
  · have := dl d hd
    show _ + 2 + d.depth < cLine
    omega
  · obtain ⟨ys, h1, h2⟩ := vals_each er
    obtain ⟨n, hn⟩ := sortedAll_at s.heap its out.toArray
    refine ⟨.ref (s.heap.objs.size + 1), upd H (s.heap.objs.size + 1) (.lst ys), I.laid (t' := s.toks) (fun b o e => sortedAll_old e) (Nat.le_succ _) ⟨?_, out, n, h1, hn⟩, rfl, q _ _ h2 (I.hok.fresh (Nat.le_succ _))⟩
    rw [h1.length, ho, ← lens, ← rv.length]; exact hz
theorem ra_each {F : FS} {H : Hp} : ∀ {us : List V} {ds : List PyData}, RA K F H us ds → PySem.W.EachIs (fun v d => R1 K F H v d) us ds
  | _, _, .nil => .nil
  | _, _, .cons a b => .cons a (ra_each b)
theorem each_ra {F : FS} {H : Hp} : ∀ {us : List V} {ds : List PyData}, PySem.W.EachIs (fun v d => R1 K F H v d) us ds → RA K F H us ds
  | _, _, .nil => .nil
  | _, _, .cons a b => .cons a (each_ra b)
mutual
theorem alike_nd : ∀ d : PyData, PySem.W.alike d d = true → d.hasDict = false
  | .none, _ => rfl
  | .bool _, _ => rfl
  | .int _, _ => rfl
  | .str _, _ => rfl
  | .list xs, h => by
    have := alikeAll_nd xs (by simpa [PySem.W.alike] using h)
    simpa [PyData.hasDict] using this
  | .tuple xs, h => by
    have := alikeAll_nd xs (by simpa [PySem.W.alike] using h)
    simpa [PyData.hasDict] using this
  | .dict _, h => by simp [PySem.W.alike] at h
theorem alikeAll_nd : ∀ ds : List PyData, PySem.W.alikeAll ds ds = true → PyData.hasDictAll ds = false
  | [], _ => rfl
  | d :: ds, h => by
    simp only [PySem.W.alikeAll, Bool.and_eq_true] at h
    simp [PyData.hasDictAll, alike_nd d h.1, alikeAll_nd ds h.2]
end
theorem nd_all : ∀ {ds : List PyData}, (∀ d ∈ ds, d.hasDict = false) → PyData.hasDictAll ds = false
  | [], _ => rfl
  | d :: ds, h => by
    have h1 := h d (by simp)
    have h2 := nd_all (ds := ds) fun x hx => h x (by simp [hx])
    simp [PyData.hasDictAll, h1, h2]
theorem alikes_nd {ds : List PyData} (h : PySem.W.AllAlike ds) : PyData.hasDictAll ds = false := nd_all fun d hd => alike_nd d (h d hd d hd)
def fSorted : FC := fun ss Q => ∃ s ds, ss = [s] ∧ s.asL = some ds ∧ PySem.W.AllAlike ds ∧ PySem.W.Sortable ds ∧ (∀ d ∈ ds, d.depth ≤ 60) ∧ Q (.own (Srts ds))
theorem cs_sorted : CallS K (rSortedA K) fSorted := by
  intro F H us ss Q R fo al ⟨s, ds, e, e1, h1, h2, h3, q⟩ k
  subst e
  obtain ⟨u, rfl, h⟩ := ah1 al
  obtain ⟨a, xs, rfl, sq, r⟩ := asL_sq h e1
  exact ⟨fun v d => R1 K F H v d, a, xs, ds, rfl, sq, ra_each r, RA.dp r (alikes_nd h1), h1, h2, h3, fun ys p er hp => k _ _ _ _ q (fun _ _ z => nomatch z) (.newL fo hp (each_ra er))⟩
end
/-! ### x in xs -/
def flatD : PyData → Bool
  | .none => true
  | .bool _ => true
  | .int _ => true
  | .str _ => true
  | _ => false
theorem flat_dp {K : PySem.W.Frag} {H : Hp} {u : V} {d : PyData} (h : Dp K H u d) (f : flatD d = true) : flatV u = true ∧ ∀ {w : V} {e : PyData}, Dp K H w e → flatD e = true → eqV w u = PyData.eqv e d := by
  cases h <;> first | (cases f; done) | skip
  all_goals
    refine ⟨rfl, fun {w e} h2 f2 => ?_⟩
    cases h2 <;> first | (cases f2; done) | simp [eqV, PyData.eqv]
section
variable {K : PySem.W.Frag} {F : FS} {H : Hp}
theorem any_flat {u : V} {d : PyData} (h : Dp K H u d) (f : flatD d = true) : ∀ {vs : List V} {ds : List PyData}, DpAll K H vs ds → ds.all flatD = true → vs.all flatV = true ∧ inV u vs = ds.any (PyData.eqv · d)
  | _, _, .nil, _ => ⟨rfl, rfl⟩
  | _, _, .cons a b, g => by
    simp only [List.all_cons, Bool.and_eq_true] at g
    obtain ⟨h1, h2⟩ := any_flat h f b g.2
    have a1 := (flat_dp a g.1).1
    have a2 := (flat_dp h f).2 a g.1
    refine ⟨by simp only [List.all_cons, a1, h1, Bool.and_self], ?_⟩
    unfold inV at h2 ⊢
    simp only [List.any_cons, a2, h2]
abbrev rInA (K : PySem.W.Frag) (neg : Bool) : R2 := r2or (fun x y H Q => ∃ (c : Nat) (z : Str), x = .str ⟨#[c]⟩ ∧ y = .str z ∧ Q (.bl (if neg then !decide (c ∈ z.cps.toList) else decide (c ∈ z.cps.toList))) H) (rIn K neg)
theorem op_inA {X : Cx} : OpR X (compareOp .In) (rInA X.K false) := op_in_sign.or op_in_seq
theorem op_notInA {X : Cx} : OpR X (compareOp .NotIn) (rInA X.K true) := op_notIn_sign.or op_notIn_seq
theorem flat_nd {d : PyData} (h : flatD d = true) : d.hasDict = false := by cases d <;> first | rfl | cases h
theorem flats_nd {ds : List PyData} (h : ds.all flatD = true) : PyData.hasDictAll ds = false := nd_all fun d hd => flat_nd (List.all_eq_true.mp h d hd)
def fIn (neg : Bool) : FB := fun a b Q => (∃ (c : Nat) (z : Str), a = .v (.str ⟨#[c]⟩) ∧ b = .v (.str z) ∧ Q (.v (.bool (if neg then !decide (c ∈ z.cps.toList) else decide (c ∈ z.cps.toList))))) ∨
  ∃ d ds, a = .v d ∧ b.asQ = some ds ∧ flatD d = true ∧ ds.all flatD = true ∧ Q (.v (.bool (if neg then !ds.any (PyData.eqv · d) else ds.any (PyData.eqv · d))))
theorem ops_in {neg : Bool} : OpS K (rInA K neg) (fIn neg) := by
  intro F H u w a b Q R fo ra rb q k
  rcases q with ⟨c, z, e1, e2, q⟩ | ⟨d, ds, e1, e2, f1, f2, q⟩
  · subst e1 e2
    rw [str_of ra, str_of rb]
    exact .inl ⟨c, z, rfl, rfl, k _ _ F H q (fun _ _ z => nomatch z) (.same fo (.bl _))⟩
  · subst e1
    obtain ⟨p, xs, rfl, sq, r⟩ := asQ_sq rb e2
    have dp := R1.dp (show R1 K F H u d from ra) (flat_nd f1)
    obtain ⟨h1, h2⟩ := any_flat dp f1 (RA.dp r (flats_nd f2)) f2
    refine .inr ⟨p, xs, rfl, sq.imp id SqN.t, (flat_dp dp f1).1, h1, ?_⟩
    rw [h2]
    exact k _ _ F H q (fun _ _ z => nomatch z) (.same fo (.bl _))
end
/-! ### <, >= of tuples -/
section
variable {X : Cx} {K : PySem.W.Frag}
def rLtD (K : PySem.W.Frag) : R2 := fun x y H Q => ∃ d e, Dp K H x d ∧ Dp K H y e ∧ PySem.W.alike d e = true ∧ d ≠ .none ∧ d.depth ≤ 60 ∧ Q (.bl (PySem.W.dataLt d e)) H
theorem op_ltD {k : Nat} (hr : Room k X.A) : OpR X (compareOp .Lt) (rLtD X.K) := by
  intro pins s σ H x y v u Q I rx ry h
  obtain ⟨d, e, h1, h2, al, nn, hd, q⟩ := h
  obtain ⟨as, r1⟩ := Dp.reads I d x v h1 rx
  obtain ⟨bs, r2⟩ := Dp.reads I e y u h2 ry
  have hu := hu64 hr
  exact PySem.W.rcLt_alike d e X.A s v u as bs r1 r2 al nn (by omega) _ _ _ _ ⟨.bl _, H, I, rfl, q⟩
/-- <: ints, texts, tuples that are alike -/
def fLtD : FB := fun a b Q => match a, b with
  | .v (.int i), .v (.int j) => Q (.v (.bool (decide (i < j))))
  | .v (.str i), .v (.str j) => Q (.v (.bool (decide (i.cps.toList < j.cps.toList))))
  | .v (.tuple ds), .v (.tuple es) => PySem.W.alike (.tuple ds) (.tuple es) = true ∧ PyData.depth (.tuple ds) ≤ 60 ∧ (PyData.hasDict (.tuple ds) = false ∧ PyData.hasDict (.tuple es) = false) ∧ Q (.v (.bool (PySem.W.dataLt (.tuple ds) (.tuple es))))
  | _, _ => False
abbrev rLtAll (K : PySem.W.Frag) : R2 := r2or (rI0 fun i j => .bl (decide (i < j))) (r2or (rStrCmp fun x y => decide (x < y)) (rLtD K))
theorem op_ltAll {k : Nat} (hr : Room k X.A) : OpR X (compareOp .Lt) (rLtAll X.K) := op_lt.or (op_lt_str.or (op_ltD hr))
theorem ops_ltAll : OpS K (rLtAll K) fLtD := by
  intro F H u w a b Q R fo ra rb q k
  unfold fLtD at q
  split at q
  · rw [int_of ra, int_of rb]
    exact .inl ⟨_, _, rfl, rfl, k _ _ F H q (fun _ _ z => nomatch z) (.same fo (.bl _))⟩
  · rw [str_of ra, str_of rb]
    exact .inr (.inl ⟨_, _, rfl, rfl, k _ _ F H q (fun _ _ z => nomatch z) (.same fo (.bl _))⟩)
  · obtain ⟨h1, h2, ⟨n1, n2⟩, q⟩ := q
    exact .inr (.inr ⟨_, _, R1.dp (show R1 K F H u _ from ra) n1, R1.dp (show R1 K F H w _ from rb) n2, h1, (fun z => nomatch z), h2, k _ _ F H q (fun _ _ z => nomatch z) (.same fo (.bl _))⟩)
  · exact q.elim
/-- >= of rows of texts -/
def geS : List Str → List Str → Bool
  | [], [] => true
  | [], _ :: _ => false
  | _ :: _, [] => true
  | x :: xs, y :: ys => if x = y then geS xs ys else !decide (x.cps.toList < y.cps.toList)
theorem geS_lex : ∀ (k i : Nat) (xs ys : List Str), k = min (xs.length - i) (ys.length - i) → i ≤ xs.length → i ≤ ys.length →
    Ob.lexAt (fun j => xs.getD j Str.empty == ys.getD j Str.empty) (fun j => !decide ((xs.getD j Str.empty).cps.toList < (ys.getD j Str.empty).cps.toList)) (decide (xs.length ≥ ys.length)) i k = geS (xs.drop i) (ys.drop i)
  | 0, i, xs, ys, h, hx, hy => by
    rw [Ob.lexAt_zero]
    by_cases h1 : i = xs.length
    · subst h1
      rw [List.drop_length]
      by_cases h2 : xs.length = ys.length
      · rw [h2, List.drop_length]; simp [geS]
      · obtain ⟨y, r, e⟩ : ∃ y r, ys.drop xs.length = y :: r := by
          rw [List.drop_eq_getElem_cons (by omega)]; exact ⟨_, _, rfl⟩
        rw [e]
        simp only [geS, decide_eq_false_iff_not]
        omega
    · have h2 : i = ys.length := by omega
      subst h2
      obtain ⟨x, r, e⟩ : ∃ x r, xs.drop ys.length = x :: r := by
        rw [List.drop_eq_getElem_cons (by omega)]; exact ⟨_, _, rfl⟩
      rw [List.drop_length, e]
      simp only [geS, decide_eq_true_eq]
      omega
  | k + 1, i, xs, ys, h, hx, hy => by
    have l1 : i < xs.length := by omega
    have l2 : i < ys.length := by omega
    rw [Ob.lexAt_succ, geS_lex k (i + 1) xs ys (by omega) (by omega) (by omega), List.drop_eq_getElem_cons l1, List.drop_eq_getElem_cons l2]
    simp only [geS, List.getD_eq_getElem?_getD, List.getElem?_eq_getElem l1, List.getElem?_eq_getElem l2, Option.getD_some, beq_iff_eq]
theorem vals_strs : ∀ {xs : List Str} {us : List Value}, Vals (xs.map V.str) us → ∀ j (h : j < us.length), ∃ t, us[j] = .str (xs.getD j Str.empty) t
  | [], _, .nil, j, h => absurd h (Nat.not_lt_zero _)
  | x :: xs, _, .cons a b, 0, h => by
    obtain ⟨t, e⟩ := a
    exact ⟨t, e⟩
  | x :: xs, _, .cons a b, j + 1, h => by
    obtain ⟨t, e⟩ := vals_strs b j (by simpa using h)
    exact ⟨t, by simpa using e⟩
def rGeS (K : PySem.W.Frag) : R2 := fun x y H Q => ∃ (a b : Addr) (xs ys : List Str), x = .ref a ∧ y = .ref b ∧ SqT K H a (xs.map V.str) ∧ SqT K H b (ys.map V.str) ∧ Q (.bl (geS xs ys)) H
theorem op_geS {k : Nat} (hr : Room k X.A) : OpR X (compareOp .GtE) (rGeS X.K) := by
  intro pins s σ H x y v u Q I rx ry h
  obtain ⟨a, b, xs, ys, rfl, rfl, ha, hb, q⟩ := h
  cases rx
  cases ry
  obtain ⟨its, r1, p1, _⟩ := I.tuple ha
  obtain ⟨its2, r2, p2, _⟩ := I.tuple hb
  have e1 : its.toArray.size = xs.length := by rw [List.size_toArray, ← r1.length, List.length_map]
  have e2 : its2.toArray.size = ys.length := by rw [List.size_toArray, ← r2.length, List.length_map]
  have hu := hu64 hr
  have R := Ob.RcOp.tuples_ge (A := X.A) (s := s) (e := fun j => xs.getD j Str.empty == ys.getD j Str.empty) (r := fun j => !decide ((xs.getD j Str.empty).cps.toList < (ys.getD j Str.empty).cps.toList)) p1 p2 (by omega) (fun j h1 h2 => by
    obtain ⟨t, et⟩ := vals_strs r1 j (by simpa using h1)
    obtain ⟨t', et'⟩ := vals_strs r2 j (by simpa using h2)
    have et1 : its.toArray[j] = .str (xs.getD j Str.empty) t := by simpa using et
    have et2 : its2.toArray[j] = .str (ys.getD j Str.empty) t' := by simpa using et'
    rw [et1, et2]
    exact eqAt_V (y := .str _) (x := .str _) ⟨t, rfl⟩ ⟨t', rfl⟩ rfl rfl) (fun j h1 h2 _ => by
    obtain ⟨t, et⟩ := vals_strs r1 j (by simpa using h1)
    obtain ⟨t', et'⟩ := vals_strs r2 j (by simpa using h2)
    have et1 : its.toArray[j] = .str (xs.getD j Str.empty) t := by simpa using et
    have et2 : its2.toArray[j] = .str (ys.getD j Str.empty) t' := by simpa using et'
    rw [et1, et2]
    exact fun _ _ _ _ h => PySem.P.ge_str h)
  rw [e1, e2, geS_lex (min xs.length ys.length) 0 xs ys (by simp) (Nat.zero_le _) (Nat.zero_le _)] at R
  exact R X.prog X.w X.xe (EP X pins σ Q) ⟨.bl _, H, I, rfl, q⟩
theorem data_strs {F : FS} {H : Hp} : ∀ {us : List V} {xs : List Str}, RA K F H us (xs.map PyData.str) → us = xs.map V.str
  | [], [], _ => rfl
  | _ :: _, [], h => by cases h
  | [], _ :: _, h => by cases h
  | u :: us, x :: xs, h => by
    cases h with
    | cons a c => cases a with | str z => rw [data_strs c]; rfl
/-- >=: ints, rows of texts -/
def fGeA : FB := fun a b Q => (∃ i j, a = .v (.int i) ∧ b = .v (.int j) ∧ Q (.v (.bool (decide (j ≤ i))))) ∨ ∃ xs ys : List Str, a = .v (.tuple (xs.map .str)) ∧ b = .v (.tuple (ys.map .str)) ∧ Q (.v (.bool (geS xs ys)))
abbrev rGeAll (K : PySem.W.Frag) : R2 := r2or (rI0 fun i j => .bl (decide (j ≤ i))) (rGeS K)
theorem op_geAll {k : Nat} (hr : Room k X.A) : OpR X (compareOp .GtE) (rGeAll X.K) := op_ge.or (op_geS hr)
theorem ops_geAll : OpS K (rGeAll K) fGeA := by
  intro F H u w a b Q R fo ra rb q k
  rcases q with ⟨i, j, e1, e2, q⟩ | ⟨xs, ys, e1, e2, q⟩
  · subst e1 e2
    rw [int_of ra, int_of rb]
    exact .inl ⟨_, _, rfl, rfl, k _ _ F H q (fun _ _ z => nomatch z) (.same fo (.bl _))⟩
  · subst e1 e2
    obtain ⟨a, us, rfl, s1, r1⟩ := asT_sq (ds := xs.map .str) ra rfl
    obtain ⟨b, ws, rfl, s2, r2⟩ := asT_sq (ds := ys.map .str) rb rfl
    rw [data_strs r1] at s1
    rw [data_strs r2] at s2
    exact .inr ⟨a, b, xs, ys, rfl, rfl, s1.t, s2.t, k _ _ F H q (fun _ _ z => nomatch z) (.same fo (.bl _))⟩
/-! ### chains -/
def vChain (f g : FB) (ta tb tc : TV) : TV := fun ρ Q => ta ρ fun a => tb ρ fun b => f a b fun s => isB s fun k => if k = true then tc ρ fun c => g b c Q else Q (.v (.bool false))
theorem chain_go {κ1 κ2 κ3 : Nat} {r r' : R2} {f g : FB} {ta tb tc : TV} {tea teb tec : TE} (hs : OpS X.K r f) (hs' : OpS X.K r' g)
    (ha : RE X ta κ1 tea)
    (hb : RE X tb κ2 teb)
    (hc : RE X tc κ3 tec) :
    RE X (vChain f g ta tb tc) (κ1 + κ2 + κ3) (tChain r r' tea teb tec) := by
  intro B F H σ ρ Q R er bq t k
  refine ha B F H σ ρ _ _ er (by omega) t fun a u F1 H1 c1 q1 r1 => ?_
  refine hb B F1 H1 σ ρ _ _ (er.step r1.toExt) (by omega) q1 fun b w F2 H2 c2 q2 r2 => ?_
  refine hs F2 H2 u w a b _ _ r2.dm (r1.sr.keep r1.fo er.refl.cp r2.toExt) r2.sr q2 fun s z F3 H3 q3 nb r3 => ?_
  have c3 := r3.ce
  obtain ⟨c, e, q3⟩ := q3
  subst e
  have x3 : Res X.K ρ F H F3 H3 (.v (.bool c)) z := r3.res (r1.toExt.trans r2.toExt) nb
  have x23 : Ext ρ F2 H2 F3 H3 := (Ext.pure ((er.step r1.toExt).step r2.toExt).refl r3.st r3.dm)
  refine ⟨c, bool_of r3.sr, ?_⟩
  cases c with
  | false => exact k _ _ F3 H3 (by omega) q3 ⟨x3.toExt, .bl false, trivial⟩
  | true =>
    have er3 := (er.step r1.toExt).step (r2.toExt.trans x23)
    refine hc B F3 H3 σ ρ _ _ er3 (by omega) q3 fun s2 u2 F4 H4 c4 q4 r4 => ?_
    have kb : SlotR X.K F4 H4 w b := r2.sr.keep r2.fo (er.step r1.toExt).refl.cp (x23.trans r4.toExt)
    exact hs' F4 H4 w u2 b s2 Q R r4.dm kb r4.sr q4 fun s5 z5 F5 H5 q5 nb5 r5 => k s5 z5 F5 H5 (by have := r5.ce; omega) q5 (r5.res (x3.toExt.trans r4.toExt) nb5)
theorem ve_chain {κ1 κ2 κ3 : Nat} {op op' : CmpOp} {r r' : R2} {f g : FB} {ta tb tc : TV} {a b c : Expr} {pos : Pos} (ho : OpR X (compareOp op) r) (ho' : OpR X (compareOp op') r') (hs : OpS X.K r f) (hs' : OpS X.K r' g) (ha : VE X a ta κ1) (hb : VE X b tb κ2) (hc : VE X c tc κ3)
    (h : ∀ tea teb tec, PE X a tea → PE X b teb → PE X c tec → PE X (.Compare a [op, op'] [b, c] pos) (tChain r r' tea teb tec)) : VE X (.Compare a [op, op'] [b, c] pos) (vChain f g ta tb tc) (κ1 + κ2 + κ3) := by
  obtain ⟨tea, pa, ga⟩ := ha
  obtain ⟨teb, pb, gb⟩ := hb
  obtain ⟨tec, pc, gc⟩ := hc
  exact ⟨_, h _ _ _ pa pb pc, chain_go hs hs' ga gb gc⟩
theorem vt_chain {κ1 κ2 κ3 : Nat} {op op' : CmpOp} {r r' : R2} {f g : FB} {ta tb tc : TV} {a b c : Expr} {pos : Pos} (ho : OpR X (compareOp op) r) (ho' : OpR X (compareOp op') r') (hs : OpS X.K r f) (hs' : OpS X.K r' g) (ha : VE X a ta κ1) (hb : VE X b tb κ2) (hc : VE X c tc κ3)
    (h : ∀ tea teb tec, PE X a tea → PE X b teb → PE X c tec → PT X (.Compare a [op, op'] [b, c] pos) (tTest (tChain r r' tea teb tec))) : VT X (.Compare a [op, op'] [b, c] pos) (vTest (vChain f g ta tb tc)) (κ1 + κ2 + κ3) := by
  obtain ⟨tea, pa, ga⟩ := ha
  obtain ⟨teb, pb, gb⟩ := hb
  obtain ⟨tec, pc, gc⟩ := hc
  refine ⟨_, h _ _ _ pa pb pc, fun B F H σ ρ Q R er bq t k => ?_⟩
  refine chain_go hs hs' ga gb gc B F H σ ρ _ (fun x H1 => ∃ d, x = .bl d ∧ R d H1) er (by omega) t fun s u F' H' cq ⟨c, e, q⟩ r => ?_
  subst e
  exact ⟨c, bool_of r.sr, k c F' H' (by omega) q r.toExt⟩
/-! ### ord -/
def fOrd : FC := fun ss Q => ∃ c : Nat, ss = [.v (.str ⟨#[c]⟩)] ∧ Q (.v (.int (c : Nat)))
theorem cs_ord : CallS K (fun xs H Q => ∃ x, xs = [.str x] ∧ x.length = 1 ∧ Q (.int (x.cps.getD 0 0 : Nat)) H) fOrd := by
  intro F H us ss Q R fo al ⟨c, e, q⟩ k
  subst e
  obtain ⟨u, rfl, h⟩ := ah1 al
  rw [str_of h]
  exact ⟨_, rfl, rfl, k _ _ F H q (fun _ _ z => nomatch z) (.same fo (.int _))⟩
/-- tuple(range(n)) -/
def vTupR (t : TV) : TV := fun ρ Q => t ρ fun s => ∃ n : Nat, s = .v (.int n) ∧ n ≤ 100000 ∧ Q (.v (.tuple ((List.range n).map fun i => .int (i : Nat))))
theorem ve_tupR {κ1 : Nat} {f e : Expr} {t : TV} (h : ∀ te, PE X e te → PE X f (tTupRgN (tRg1 te))) (he : VE X e t κ1) : VE X f (vTupR t) κ1 := by
  obtain ⟨te, pe, g⟩ := he
  refine ⟨_, h te pe, fun B F H σ ρ Q R er bq q k => ?_⟩
  refine g B F H σ ρ _ _ er (by omega) q fun s u F' H' cq ⟨n, e1, hn, q⟩ x => ?_
  subst e1
  refine ⟨n, int_of x.sr, ⟨by decide, by decide, by omega, by omega, by omega⟩, fun p o nd hp => k _ _ _ _ (by omega) q ((PRes.newT (ds := (List.range n).map fun i => .int (i : Nat)) x.dm nd hp ?_).res x.toExt fun _ _ z => nomatch z)⟩
  have e2 : rgV 0 n = ((List.range n).map fun i => ((i : Nat) : Int)).map V.int := by
    unfold rgV
    simp
  rw [e2, show (List.range n).map (fun i => PyData.int ((i : Nat) : Int)) = ((List.range n).map fun i => ((i : Nat) : Int)).map PyData.int from by rw [List.map_map]; rfl]
  exact RA.ints _
end
end VL
namespace VL
open PySem PySem.Spec PyProof.Rows L2 VG

/-! ### a dict of the module, texts for keys -/
def EntKV (e : DictEntry) (kv : Str × V) : Prop := (∃ t, e.key = .str kv.1 t) ∧ RelV kv.2 e.val
structure KD (K : PySem.W.Frag) (w : World) (d : Addr) (kvs : List (Str × V)) : Prop where
  ex : ∃ (es : Array DictEntry) (n : Nat), KDict K w d es n ∧ Paired EntKV es.toList kvs
def sFind {α : Type} (kvs : List (Str × α)) (z : Str) : Option α := (kvs.find? fun kv => kv.1 == z).map (·.2)
theorem isStr_key {v : Value} {x : Str} {t : Tok} (h : v = .str x t) (z : Str) : v.isStr z = (x == z) := by
  subst h
  unfold Value.isStr
  by_cases e : x = z
  · subst e; simp
  · simp [e]
theorem kd_find {z : Str} : ∀ {es : List DictEntry} {kvs : List (Str × V)}, Paired EntKV es kvs → (es.find? (·.key.isStr z) = none ∧ sFind kvs z = none) ∨ ∃ e v, es.find? (·.key.isStr z) = some e ∧ sFind kvs z = some v ∧ RelV v e.val
  | _, _, .nil => .inl ⟨rfl, rfl⟩
  | e :: es, kv :: kvs, .cons ⟨⟨t, h1⟩, h2⟩ r => by
    have ih := kd_find (z := z) r
    unfold sFind at ih ⊢
    rw [List.find?_cons, List.find?_cons, isStr_key h1]
    cases hz : kv.1 == z with
    | true => exact .inr ⟨e, kv.2, rfl, rfl, h2⟩
    | false => exact ih
theorem kd_noref {v : Value} {x : Str} {t : Tok} (h : v = .str x t) {e : DictEntry} (he : e.key = v) : e.refKey = false := by
  subst h
  unfold DictEntry.refKey
  rw [he]
theorem kd_norefs : ∀ {es : List DictEntry} {kvs : List (Str × V)}, Paired EntKV es kvs → es.any (·.refKey) = false
  | _, _, .nil => rfl
  | e :: es, kv :: kvs, .cons ⟨⟨t, h1⟩, h2⟩ r => by
    rw [List.any_cons, kd_norefs r, kd_noref (v := e.key) h1 rfl]; rfl
section
variable {X : Cx} {d : Addr} {kvs : List (Str × V)}
theorem kd_ns {K : PySem.W.Frag} {es : Array DictEntry} {n : Nat} (at_ : K.lookup d = some ⟨.type "dict", none, .dict es n, #[]⟩) (p : Paired EntKV es.toList kvs) (z : Str) :
    (PySem.W.nsIn K d z = some none ∧ sFind kvs z = none) ∨ ∃ u v, PySem.W.nsIn K d z = some (some u) ∧ sFind kvs z = some v ∧ RelV v u := by
  unfold PySem.W.nsIn
  rw [at_]
  rcases kd_find (z := z) p with ⟨h1, h2⟩ | ⟨e, v, h1, h2, h3⟩
  · refine .inl ⟨?_, h2⟩
    simp only [h1, kd_norefs p]
    rfl
  · exact .inr ⟨e.val, v, by simp only [h1], h2, h3⟩
/-- x in D -/
def tKIn (neg : Bool) (kvs : List (Str × V)) (te : TE) : TE := fun σ H Q => te σ H fun x H1 => ∃ z, x = .str z ∧ Q (.bl (if neg then !(sFind kvs z).isSome else (sFind kvs z).isSome)) H1
theorem or_kin (D : KD X.K X.w d kvs) : OpR X (compareOp .In) (fun x y H Q => ∃ z, x = .str z ∧ y = .ref d ∧ Q (.bl (sFind kvs z).isSome) H) := by
  obtain ⟨es, n, D, p⟩ := D.ex
  intro pins s σ H x y v u Q I rx ry h
  obtain ⟨z, rfl, rfl, q⟩ := h
  refine op_in_kd D pins s σ H _ _ v u Q I rx ry ?_
  rcases kd_ns D.at_ p z with ⟨h1, h2⟩ | ⟨u0, v0, h1, h2, _⟩
  · rw [h2] at q; exact ⟨z, none, rfl, rfl, h1, q⟩
  · rw [h2] at q; exact ⟨z, some u0, rfl, rfl, h1, q⟩
theorem or_knotin (D : KD X.K X.w d kvs) : OpR X (compareOp .NotIn) (fun x y H Q => ∃ z, x = .str z ∧ y = .ref d ∧ Q (.bl (!(sFind kvs z).isSome)) H) := by
  obtain ⟨es, n, D, p⟩ := D.ex
  intro pins s σ H x y v u Q I rx ry h
  obtain ⟨z, rfl, rfl, q⟩ := h
  refine op_notIn_kd D pins s σ H _ _ v u Q I rx ry ?_
  rcases kd_ns D.at_ p z with ⟨h1, h2⟩ | ⟨u0, v0, h1, h2, _⟩
  · rw [h2] at q; exact ⟨z, none, rfl, rfl, h1, q⟩
  · rw [h2] at q; exact ⟨z, some u0, rfl, rfl, h1, q⟩
theorem ix_kd (D : KD X.K X.w d kvs) : IxR X (fun x y H Q => ∃ z v, x = .ref d ∧ y = .str z ∧ sFind kvs z = some v ∧ Q v H) := by
  obtain ⟨es, n, D, p⟩ := D.ex
  intro value slice pins s σ H x y v u Q I rx ry h hs
  obtain ⟨z, v0, rfl, rfl, e, q⟩ := h
  refine ix_kdict value slice pins s σ H _ _ v u Q I rx ry ?_ hs
  rcases kd_ns D.at_ p z with ⟨h1, h2⟩ | ⟨u0, v1, h1, h2, h3⟩
  · rw [h2] at e; cases e
  · rw [h2] at e
    cases e
    exact ⟨d, z, v0, rfl, rfl, ⟨es, n, u0, D.at_, D.lit, h1, h3⟩, q⟩
/-- over values: kds the dict's values as data -/
def vKIn (neg : Bool) (kds : List (Str × PyData)) (t : TV) : TV := fun ρ Q => t ρ fun s => ∃ z, s = .v (.str z) ∧ Q (.v (.bool (if neg then !(sFind kds z).isSome else (sFind kds z).isSome)))
def vKGet (kds : List (Str × PyData)) (t : TV) : TV := fun ρ Q => t ρ fun s => ∃ z e, s = .v (.str z) ∧ sFind kds z = some e ∧ Q (.v e)
/-- the values stand for data, whatever the heap -/
def KDs (K : PySem.W.Frag) (kvs : List (Str × V)) (kds : List (Str × PyData)) : Prop := Paired (fun kv kd => kv.1 = kd.1 ∧ ∀ F H, R1 K F H kv.2 kd.2) kvs kds
theorem kds_find {K : PySem.W.Frag} {z : Str} : ∀ {kvs : List (Str × V)} {kds : List (Str × PyData)}, KDs K kvs kds → (sFind kvs z = none ∧ sFind kds z = none) ∨ ∃ v e, sFind kvs z = some v ∧ sFind kds z = some e ∧ ∀ F H, R1 K F H v e
  | _, _, .nil => .inl ⟨rfl, rfl⟩
  | kv :: kvs, kd :: kds, .cons ⟨h1, h2⟩ r => by
    have ih := kds_find (z := z) r
    unfold sFind at ih ⊢
    rw [List.find?_cons, List.find?_cons, h1]
    cases hz : kd.1 == z with
    | true => exact .inr ⟨_, _, rfl, rfl, h2⟩
    | false => exact ih
variable {kds : List (Str × PyData)} {e c : Expr} {t : TV} {pos : Pos}
theorem kin_go {κ : Nat} {g : Bool → Bool} {te : TE} (kk : KDs X.K kvs kds) (ge : RE X t κ te)
    (B : Bas) (F : FS) (H : Hp) (σ : Hs) (ρ : VL.Env) (Q : SV → Prop) (R : L2.VK) (er : ER X.K B F H σ ρ) (bq : F.ck + κ ≤ LIM) (q : t ρ fun s => ∃ z, s = .v (.str z) ∧ Q (.v (.bool (g (sFind kds z).isSome)))) (k : ∀ s u (F' : FS) H', F'.ck ≤ F.ck + κ → Q s → Res X.K ρ F H F' H' s u → R u H') :
    tOp (fun x y H Q => ∃ z, x = .str z ∧ y = .ref d ∧ Q (.bl (g (sFind kvs z).isSome)) H) te (tC (.ref d)) σ H R := by
  refine ge B F H σ ρ _ _ er bq q fun s u F' H' cq ⟨z, e1, q⟩ x => ?_
  subst e1
  refine ⟨z, str_of x.sr, rfl, ?_⟩
  have : (sFind kvs z).isSome = (sFind kds z).isSome := by
    rcases kds_find (z := z) kk with ⟨h1, h2⟩ | ⟨v, e, h1, h2, _⟩ <;> rw [h1, h2] <;> rfl
  rw [this]
  exact k _ _ F' H' cq q ⟨x.toExt, .bl _, trivial⟩
theorem ve_kin {κ1 : Nat} (D : KD X.K X.w d kvs) (kk : KDs X.K kvs kds) (he : VE X e t κ1) (pc : PE X c (tC (.ref d))) (hm : behindInMarks .In c = false) : VE X (.Compare e [.In] [c] pos) (vKIn false kds t) κ1 := by
  obtain ⟨te, pe, ge⟩ := he
  exact ⟨_, pe_cmpR (or_kin D) pe pc hm, fun B F H σ ρ Q R er bq q k => kin_go (g := fun b => b) kk ge B F H σ ρ Q R er bq q k⟩
theorem ve_knotin {κ1 : Nat} (D : KD X.K X.w d kvs) (kk : KDs X.K kvs kds) (he : VE X e t κ1) (pc : PE X c (tC (.ref d))) (hm : behindInMarks .NotIn c = false) : VE X (.Compare e [.NotIn] [c] pos) (vKIn true kds t) κ1 := by
  obtain ⟨te, pe, ge⟩ := he
  exact ⟨_, pe_cmpR (or_knotin D) pe pc hm, fun B F H σ ρ Q R er bq q k => kin_go (g := fun b => !b) kk ge B F H σ ρ Q R er (by omega) q k⟩
theorem vt_kin {κ1 : Nat} (D : KD X.K X.w d kvs) (kk : KDs X.K kvs kds) (he : VE X e t κ1) (pc : PE X c (tC (.ref d))) (hm : behindInMarks .In c = false) : VT X (.Compare e [.In] [c] pos) (vTest (vKIn false kds t)) κ1 := by
  obtain ⟨te, pe, ge⟩ := he
  refine ⟨_, pt_cmpR (or_kin D) pe pc hm, fun B F H σ ρ Q R er bq q k => ?_⟩
  refine kin_go (g := fun b => b) kk ge B F H σ ρ (fun s => ∃ b, s = .v (.bool b) ∧ Q b) (fun x H1 => ∃ d, x = .bl d ∧ R d H1) er (by omega) q fun s u F' H' cq ⟨c, e, q⟩ r => ?_
  subst e
  exact ⟨c, bool_of r.sr, k c F' H' (by omega) q r.toExt⟩
theorem vt_knotin {κ1 : Nat} (D : KD X.K X.w d kvs) (kk : KDs X.K kvs kds) (he : VE X e t κ1) (pc : PE X c (tC (.ref d))) (hm : behindInMarks .NotIn c = false) : VT X (.Compare e [.NotIn] [c] pos) (vTest (vKIn true kds t)) κ1 := by
  obtain ⟨te, pe, ge⟩ := he
  refine ⟨_, pt_cmpR (or_knotin D) pe pc hm, fun B F H σ ρ Q R er bq q k => ?_⟩
  refine kin_go (g := fun b => !b) kk ge B F H σ ρ (fun s => ∃ b, s = .v (.bool b) ∧ Q b) (fun x H1 => ∃ d, x = .bl d ∧ R d H1) er (by omega) q fun s u F' H' cq ⟨c, e, q⟩ r => ?_
  subst e
  exact ⟨c, bool_of r.sr, k c F' H' (by omega) q r.toExt⟩
/-- D[x] -/
theorem ve_kget {κ1 : Nat} (D : KD X.K X.w d kvs) (kk : KDs X.K kvs kds) (he : VE X e t κ1) (pc : PE X c (tC (.ref d))) (hx : PlainIx e) : VE X (.Subscript c e pos) (vKGet kds t) κ1 := by
  obtain ⟨te, pe, ge⟩ := he
  refine ⟨_, pe_ix (ix_kd D) pc pe hx, fun B F H σ ρ Q R er bq q k => ?_⟩
  refine ge B F H σ ρ _ _ er (by omega) q fun s u F' H' cq ⟨z, e0, e1, e2, q⟩ x => ?_
  subst e1
  rcases kds_find (z := z) kk with ⟨h1, h2⟩ | ⟨v, e, h1, h2, h3⟩
  · rw [h2] at e2; cases e2
  · rw [h2] at e2
    cases e2
    exact ⟨z, v, rfl, str_of x.sr, h1, k _ _ F' H' (by omega) q ⟨x.toExt, h3 F' H', trivial⟩⟩
end
/-! ### a def out of a dict: check = D[k]; return check(e) -/
/-- the promises of defs by their names -/
structure Hld (P : Program) (w : World) (K : PySem.W.Frag) (mg : Str → Option Value) (base : Heap) (k : Nat) (f : Addr) (n κ : Nat) (tf : TF) : Prop where
  ex : ∃ (fd : FuncData) (ps : List Str), GOk P w K mg base CX0 k f fd ps (spOf K n κ tf) ∧ PySem.W.keepIn K (.ref f) = true ∧ Binds K fd ps []
def Hlds (P : Program) (w : World) (K : PySem.W.Frag) (mg : Str → Option Value) (base : Heap) (k n κ : Nat) (kvs : List (Str × V)) (fs : List (Str × TF)) : Prop := Paired (fun kv nf => kv.1 = nf.1 ∧ ∃ f, kv.2 = .ref f ∧ Hld P w K mg base k f n κ nf.2) kvs fs
theorem hlds_find {P : Program} {w : World} {K : PySem.W.Frag} {mg : Str → Option Value} {base : Heap} {k n κ : Nat} {z : Str} : ∀ {kvs : List (Str × V)} {fs : List (Str × TF)}, Hlds P w K mg base k n κ kvs fs →
    (sFind kvs z = none ∧ sFind fs z = none) ∨ ∃ f tf, sFind kvs z = some (.ref f) ∧ sFind fs z = some tf ∧ Hld P w K mg base k f n κ tf
  | _, _, .nil => .inl ⟨rfl, rfl⟩
  | kv :: kvs, nf :: fs, .cons ⟨h1, f, h2, h3⟩ r => by
    have ih := hlds_find (z := z) r
    unfold sFind at ih ⊢
    rw [List.find?_cons, List.find?_cons, h1]
    cases hz : nf.1 == z with
    | true => exact .inr ⟨f, nf.2, by rw [← h2]; rfl, rfl, h3⟩
    | false => exact ih
section
variable {X : Cx} {k n κ i : Nat} {x : Str} {p pos : Pos} {e : Expr} {es : List Expr} {ta : TA}
/-- a local name's def is called -/
theorem gp_callL (hr : Room k X.A) (gd : Still X.A) (hN : X.N[i]? = some x) (hv : Vis X.env.scope x) (ha : PA X (e :: es) ta)
    (hdb : (x == ("__debug__" : Str)) = false := by decide) (hcd : (x == ("__classdict__" : Str)) = false := by decide)
    (he : starEach (e :: es) X.env = (false, eval e X.env) :: starEach es X.env := by rfl) (hpl : (backTo pos (starEach es X.env)).any (·.1) = false := by rfl) :
    PE X (.Call (.Name x p) (e :: es) [] pos) (fun σ H Q => ∃ f tf, σ[i]? = some (some (.ref f)) ∧ Hld X.prog X.w X.K X.mg X.base k f n κ tf ∧ ta σ H fun vs H1 => spOf X.K n κ tf vs H1 Q E0) := by
  refine ⟨fun pins s σ H Q I h => ?_⟩
  obtain ⟨f, tf, hs, A, ht⟩ := h
  obtain ⟨fd, ps, F, hk, hb⟩ := A.ex
  refine wpAny_Call_Name_kw (thn ((pe_var (pos := p) hN hv hdb hcd).run pins s σ H (fun v H1 => v = .ref f ∧ H1 = H) I ⟨.ref f, hs, rfl, rfl⟩) fun u s1 q => ?_)
  obtain ⟨v, H1, I1, r1, q1⟩ := q
  obtain ⟨rfl, rfl⟩ := q1
  cases r1
  refine PySem.W.callWith_K (h₀ := X.base) I.ok.mod.kin hk (thn (ha.run pos pins s1 σ _ _ I1 ht) fun us s2 q => ?_) he hpl
  obtain ⟨vs, H2, I2, r, q⟩ := q
  have bt := hb s2 us I2.kIn
  rw [List.append_nil] at bt
  exact ⟨I2.kIn, go_fn (kw := []) F hr gd bt pass0 I2 r q⟩
variable {kvs : List (Str × V)} {fs : List (Str × TF)} {d : Addr} {t : TV} {ts : TVs} {c o : Expr} {st : Stmt}
/-- check = D[k]; return check(e, ..) -/
def vDisp (i : Nat) (fs : List (Str × TF)) (n : Nat) (t : TV) (ts : TVs) : TVS := fun E ρ => t ρ fun s => ∃ z tf, s = .v (.str z) ∧ sFind fs z = some tf ∧ i < ρ.length ∧ ts (ρ.set i .un) fun ss => TapsOld (ρ.set i .un) ss ∧ ∃ zs, hands ss = some zs ∧ zs.length = n ∧ tf zs fun s => ∃ z, s.hand = some z ∧ E.rt z
theorem vss_disp {κ1 κ2 : Nat} {p p2 p3 : Pos} (D : KD X.K X.w d kvs) (hh : Hlds X.prog X.w X.K X.mg X.base k n κ kvs fs) (hr : Room k X.A) (gd : Still X.A) (hN : X.N[i]? = some x) (hv : Vis X.env.scope x) (ho : VE X o t κ1) (pc : PE X c (tC (.ref d))) (hx : PlainIx o)
    (h : ∀ te, PE X (.Subscript c o p) te → PS X st (tAsg te (gName i))) (ha : VA X (e :: es) ts κ2)
    (hdb : (x == ("__debug__" : Str)) = false := by decide) (hcd : (x == ("__classdict__" : Str)) = false := by decide)
    (he : starEach (e :: es) X.env = (false, eval e X.env) :: starEach es X.env := by rfl) (hpl : (backTo pos (starEach es X.env)).any (·.1) = false := by rfl) :
    VSs X [st, .Return (some (.Call (.Name x p2) (e :: es) [] pos)) p3] (vDisp i fs n t ts) (κ1 + κ2 + κ) := by
  obtain ⟨te, pe, ge⟩ := ho
  obtain ⟨ta, pa, ga⟩ := ha
  refine ⟨_, pss_cons (h _ (pe_ix (ix_kd D) pc pe hx)) (pss_one (ps_ret (gp_callL (n := n) (κ := κ) hr gd hN hv pa hdb hcd he hpl))), fun B F H σ ρ E D er bq q kk => ?_⟩
  refine ge B F H σ ρ _ _ er (by omega) q fun s u F1 H1 cq ⟨z, tf, e1, e2, hl, q⟩ x => ?_
  subst e1
  rcases hlds_find (z := z) hh with ⟨h1, h2⟩ | ⟨f, tf', h1, h2, h3⟩
  · rw [h2] at e2; cases e2
  · rw [h2] at e2
    cases e2
    refine ⟨z, .ref f, rfl, str_of x.sr, h1, ?_⟩
    have er1 : ER X.K B F1 H1 (σ.set i (some (.ref f))) (ρ.set i .un) := er.set (s := .un) ⟨x.toExt, trivial, trivial⟩ (fun _ _ z => nomatch z) i
    refine ⟨f, tf, by rw [List.getElem?_set_self (by rw [er.len]; exact hl)], h3, ?_⟩
    refine ga B F1 H1 _ _ _ _ er1 (by omega) q fun ss us F2 H2 cq ⟨ol, zs, ez, hn, q⟩ x2 al => ?_
    have := call_go (dss := []) (vs := []) x2 al ol ez (fun _ _ => .nil) (n := n) (κ := κ) (by simpa using hn) (by omega) (tf := tf) (Q := fun s => ∃ z, s.hand = some z ∧ E.rt z) (by simpa using q) (R := D.rt) fun s u F' H' c3 ⟨z, e1, q⟩ x => by
      obtain ⟨F3, ce, x3, _⟩ := x.hand e1
      exact kk.rt z u F3 H' (by omega) q (hand_nb e1) (er1.fin x3)
    rwa [List.append_nil] at this
end
/-! ### {k: e, ..}, written keys -/
theorem put_new {kvs : List (L2.Key × V)} {k : L2.Key} {v : V} (h : k ∉ kvs.map (·.1)) : putK kvs k v = kvs ++ [(k, v)] := by
  unfold putK
  have : (kvs.any fun kv => decide (kv.1 = k)) = false := by
    rw [List.any_eq_false]
    intro kv hk
    simp only [decide_eq_true_eq]
    exact fun e => h (List.mem_map.mpr ⟨kv, hk, e⟩)
  rw [this, if_neg (by decide)]
theorem merge_new : ∀ (more kvs : List (L2.Key × V)), ((kvs ++ more).map (·.1)).Nodup → mergeK kvs more = kvs ++ more
  | [], kvs, _ => by rw [List.append_nil]; rfl
  | kv :: more, kvs, h => by
    show mergeK (putK kvs kv.1 kv.2) more = _
    have hn : kv.1 ∉ kvs.map (·.1) := by
      rw [List.map_append, List.map_cons, List.nodup_append] at h
      exact fun z => h.2.2 _ z _ (List.mem_cons_self ..) rfl
    rw [put_new hn, merge_new more _ (by simpa using h)]
    simp
section
variable {X : Cx}
def vPairs : List (L2.Key × TV) → VL.Env → (List (L2.Key × PyData) → Prop) → Prop
  | [], _, Q => Q []
  | (k, t) :: r, ρ, Q => t ρ fun s => ∃ d, s = .v d ∧ vPairs r ρ fun ps => Q ((k, d) :: ps)
def kC (k : L2.Key) : TE := tC (kV k)
theorem pairs_go {p : Addr} : ∀ (kts : List (L2.Key × TV)) (tes : List TE), Paired (fun kt te => RE X kt.2 0 te) kts tes →
    ∀ B F H σ ρ (Q : List (L2.Key × PyData) → Prop) (R : List (V × V) → Hp → Prop), ER X.K B F H σ ρ → F.ck ≤ LIM → H p = some (.dK []) → ¬ cellsOf ρ p → vPairs kts ρ Q →
      (∀ (ps : List (L2.Key × PyData)) (us : List (L2.Key × V)) (F' : FS) H', F'.ck ≤ F.ck → Q ps → Ext ρ F H F' H' → H' p = some (.dK []) → us.map (·.1) = ps.map (·.1) → ps.map (·.1) = kts.map (·.1) → RA X.K F' H' (us.map (·.2)) (ps.map (·.2)) → R (us.map fun kv => (kV kv.1, kv.2)) H') →
      tPairs ((kts.zip tes).map fun q => (kC q.1.1, q.2)) σ H R
  | [], [], _, B, F, H, σ, ρ, Q, R, er, bq, hp, nc, q, k => k [] [] F H (Nat.le_refl _) q er.refl hp rfl rfl .nil
  | (ky, t) :: kts, te :: tes, .cons h1 hr, B, F, H, σ, ρ, Q, R, er, bq, hp, nc, q, k => by
    show kC ky σ H fun x H1 => te σ H1 fun y H2 => tPairs _ σ H2 fun ps H3 => R ((x, y) :: ps) H3
    refine h1 B F H σ ρ _ _ er bq q fun s u F1 H1 c1 ⟨d, e1, q1⟩ x => ?_
    subst e1
    have hp1 := x.st.kp p _ hp nc
    refine pairs_go kts tes hr B F1 H1 σ ρ _ _ (er.step x.toExt) (by omega) hp1 nc q1 fun ps us F2 H2 c2 q2 x2 hp2 e1 e2 ra => ?_
    have := k ((ky, d) :: ps) ((ky, u) :: us) F2 H2 (by omega) q2 (x.toExt.trans x2) hp2 (by simp [e1]) (by simp [e2]) (.cons (Rp.mono x2.st.toFM (show R1 X.K F1 H1 u d from x.sr)) ra)
    exact this
/-- a dict that stays -/
def vDsp (kts : List (L2.Key × TV)) : TV := fun ρ Q => vPairs kts ρ fun kvs => Q (.dct kvs)
theorem ve_dsp {f : Expr} {kts : List (L2.Key × TV)} {tes : List TE} (h : PE X f (tDisp ((kts.zip tes).map fun q => (kC q.1.1, q.2)))) (hk : (kts.map (·.1)).Nodup) (hl : kts.length ≤ 15)
    (hp : Paired (fun kt te => RE X kt.2 0 te) kts tes) : VE X f (vDsp kts) 0 := by
  refine ⟨_, h, fun B F H σ ρ Q R er bq q k p hpn => ?_⟩
  have x0 : Ext ρ F H F (upd H p (.dK [])) := er.refl.pure (Stp.new hpn) (er.dm.new hpn)
  have nc : ¬ cellsOf ρ p := fun c => er.refl.cp p c hpn
  refine pairs_go kts tes hp B F _ σ ρ _ _ (er.step x0) bq upd_same nc q fun ps us F1 H1 c1 q1 x1 hp1 e1 e2 ra => ⟨hp1, us, rfl, ?_, ?_⟩
  · have a1 := congrArg List.length e1
    have a2 := congrArg List.length e2
    simp only [List.length_map] at a1 a2
    omega
  · rw [merge_new us [] (by rw [List.nil_append, e1, e2]; exact hk), List.nil_append]
    have nf : ¬ F1 p := fun z => by
      rcases x1.st.nw p z with w | w
      · obtain ⟨o, w, _⟩ := er.dm p w
        rw [hpn] at w; cases w
      · rw [upd_same] at w; cases w
    have keep : ∀ b o, H1 b = some o → b ≠ p → upd H1 p (.dK us) b = some o := fun b o e n => by rw [upd_ne n]; exact e
    have x01 := x0.trans x1
    have st : Stp (cellsOf ρ) F (F1.or (fun x => x = p)) H (upd H1 p (.dK us)) := by
      have m := x01.st.mut (o := .dK us) hpn
      exact m.frz (N := fun x => x = p) fun x e => by rw [e]; exact hpn
    have fm : FM F1 (F1.or (fun x => x = p)) H1 (upd H1 p (.dK us)) := by
      refine ⟨fun _ f => .inl f, fun a o f e => keep a o e (fun z => nf (by rw [← z]; exact f)), fun a xs e => keep a _ e (fun z => ?_), fun a o u e => keep a _ e (fun z => ?_)⟩
      · rw [z, hp1] at e; cases e
      · rw [z, hp1] at e; cases e
    refine k _ _ (F1.or (fun x => x = p)) _ (by omega) q1 ⟨⟨st, fun a f => ?_, fun i a ns hc => ?_, er.refl.cp⟩, ⟨p, us, rfl, .inr rfl, upd_same, e1, Rp.mono fm ra⟩, trivial⟩
    · rcases f with f | rfl
      · obtain ⟨o, e, l⟩ := x01.dm a f
        exact ⟨o, keep a o e (fun z => nf (by rw [← z]; exact f)), l⟩
      · exact ⟨_, upd_same, .dct⟩
    · obtain ⟨nf', c', j, l, n, c1, c2, c3, c4⟩ := x01.cl i a ns hc
      have n1 : a ≠ p := fun z => nc (by rw [← z]; exact ⟨i, ns, hc⟩)
      have n2 : c' ≠ p := fun z => nf (by rw [← z]; exact c2)
      exact ⟨fun z => z.elim nf' n1, c', j, l, n, keep _ _ c1 n1, .inl c2, keep _ _ c3 n2, c4⟩
end
/-! ### zip -/
def zipD (ds es : List PyData) : List PyData := (ds.zip es).map fun q => .tuple [q.1, q.2]
section
variable {X : Cx} {K : PySem.W.Frag} {F1 : FS} {H1 : Hp}
theorem zipD_at {ds es : List PyData} {i : Nat} {d : PyData} (h : (zipD ds es)[i]? = some d) : ∃ x y, ds[i]? = some x ∧ es[i]? = some y ∧ d = .tuple [x, y] := by
  unfold zipD at h
  rw [List.getElem?_map] at h
  rcases e : (ds.zip es)[i]? with _ | q
  · rw [e] at h; cases h
  · rw [e] at h
    cases h
    rw [List.getElem?_zip_eq_some] at e
    exact ⟨_, _, e.1, e.2, rfl⟩
theorem wk_zipT {a b : Addr} {xs ys : List V} {ds es : List PyData} (h : SqT K H1 a xs) (r : RA K F1 H1 xs ds) (h' : SqT K H1 b ys) (r' : RA K F1 H1 ys es) : Wk true (RZ.ItzT K a b) K (zipD ds es) F1 H1 where
  go := fun i F H m d hi => by
    have l1 := r.len
    have l2 := r'.len
    have hi : i < min ds.length es.length := by simpa [zipD] using hi
    exact ⟨xs, ys, xs[i]'(by omega), ys[i]'(by omega), m.sqt h, m.sqt h', List.getElem?_eq_getElem (by omega), List.getElem?_eq_getElem (by omega)⟩
  yld := fun i F H x H' d m fo hd y => by
    obtain ⟨T, x1, y1, rfl, hT, rfl, hx, hy⟩ := y
    obtain ⟨dx, dy, e1, e2, rfl⟩ := zipD_at hd
    obtain ⟨v, q1, q2⟩ := r.get e1
    obtain ⟨w, q3, q4⟩ := r'.get e2
    rw [hx xs (m.sqt h)] at q1
    rw [hy ys (m.sqt h')] at q3
    cases q1
    cases q3
    have st : Stp (fun _ => False) F F H (upd H T (.tup [x1, y1])) := Stp.new hT
    have m2 := m.trans st.toFM
    exact ⟨F, rfl, st, fo.new hT, .inr ⟨rfl, _, _, _, rfl, rfl, SqT.of upd_same, (.cons (Rp.mono m2 q2) (.cons (Rp.mono m2 q4) .nil))⟩⟩
  stop := fun F H m _ => by
    have l1 := r.len
    have l2 := r'.len
    have hz : (zipD ds es).length = min ds.length es.length := by simp [zipD]
    refine ⟨xs, ys, m.sqt h, m.sqt h', ?_⟩
    rw [hz]
    omega
theorem wk_zipL {a b : Addr} {xs ys : List V} {ds es : List PyData} (f : F1 a) (h : H1 a = some (.lst xs)) (r : RA K F1 H1 xs ds) (f' : F1 b) (h' : H1 b = some (.lst ys)) (r' : RA K F1 H1 ys es) : Wk true (Itz K a b) K (zipD ds es) F1 H1 where
  go := fun i F H m d hi => by
    have l1 := r.len
    have l2 := r'.len
    have hi : i < min ds.length es.length := by simpa [zipD] using hi
    exact ⟨xs, ys, xs[i]'(by omega), ys[i]'(by omega), SqL.of (m.fk _ _ f h), SqL.of (m.fk _ _ f' h'), List.getElem?_eq_getElem (by omega), List.getElem?_eq_getElem (by omega)⟩
  yld := fun i F H x H' d m fo hd y => by
    obtain ⟨T, x1, y1, rfl, hT, rfl, hx, hy⟩ := y
    obtain ⟨dx, dy, e1, e2, rfl⟩ := zipD_at hd
    obtain ⟨v, q1, q2⟩ := r.get e1
    obtain ⟨w, q3, q4⟩ := r'.get e2
    rw [hx xs (SqL.of (m.fk _ _ f h))] at q1
    rw [hy ys (SqL.of (m.fk _ _ f' h'))] at q3
    cases q1
    cases q3
    have st : Stp (fun _ => False) F F H (upd H T (.tup [x1, y1])) := Stp.new hT
    have m2 := m.trans st.toFM
    exact ⟨F, rfl, st, fo.new hT, .inr ⟨rfl, _, _, _, rfl, rfl, SqT.of upd_same, (.cons (Rp.mono m2 q2) (.cons (Rp.mono m2 q4) .nil))⟩⟩
  stop := fun F H m _ => by
    have l1 := r.len
    have l2 := r'.len
    have hz : (zipD ds es).length = min ds.length es.length := by simp [zipD]
    refine ⟨xs, ys, SqL.of (m.fk _ _ f h), SqL.of (m.fk _ _ f' h'), ?_⟩
    rw [hz]
    omega
def vZip (t : TVs) : TVl := fun ρ Q => t ρ fun ss => ∃ ds es, (ss = [.v (.tuple ds), .v (.tuple es)] ∨ ss = [.v (.list ds), .v (.list es)]) ∧ Q (zipD ds es)
theorem vi_zip {κ1 : Nat} {tg l : Expr} {es : List Expr} {t : TVs} (hz : ∀ ta, PA X es ta → PI X tg l (RZ.iZipA X.K ta)) (h : VA X es t κ1) : VI true X tg l (vZip t) κ1 := by
  obtain ⟨ta, pa, g⟩ := h
  refine ⟨_, hz ta pa, fun B F H σ ρ Q R er bq t k => ?_⟩
  refine g B F H σ ρ _ _ er (by omega) t fun ss us F1 H1 cq ⟨ds, es, e, q⟩ x al => ?_
  rcases e with e | e
  · subst e
    match us, al with
    | [u, w], ⟨r1, _, r2, _, _⟩ =>
      cases (show R1 X.K F1 H1 u _ from r1) with
      | tup h1 q1 =>
        cases (show R1 X.K F1 H1 w _ from r2) with
        | tup h2 q2 => exact ⟨_, _, _, _, rfl, .inr ⟨h1.t, h2.t, k _ _ F1 H1 (by omega) q x (wk_zipT h1.t q1 h2.t q2)⟩⟩
  · subst e
    match us, al with
    | [u, w], ⟨r1, _, r2, _, _⟩ =>
      cases (show R1 X.K F1 H1 u _ from r1) with
      | lst f1 h1 q1 =>
        cases (show R1 X.K F1 H1 w _ from r2) with
        | lst f2 h2 q2 => exact ⟨_, _, _, _, rfl, .inl ⟨SqL.of h1, SqL.of h2, k _ _ F1 H1 (by omega) q x (wk_zipL f1 h1 q1 f2 h2 q2)⟩⟩
end
theorem ex_k {X : Cx} {body : List Stmt} {t : TVS} {κ κ' : Nat} (h : VSs X body t κ') (hk : κ' ≤ κ) : ∃ κ', κ' ≤ κ ∧ VSs X body t κ' := ⟨κ', hk, h⟩
/-! ### how these are reckoned -/
section
variable {Q : SV → Prop} {d : PyData} {ds es : List PyData} {i j : Int} {x y z : Str} {t ta tb tc : TV} {ts tk : TVs} {ρ : VL.Env} {E : VEnds} {neg : Bool} {kds : List (Str × PyData)} {c : Nat} {f g : FB}
theorem m_ltI : fLtD (.v (.int i)) (.v (.int j)) Q = Q (.v (.bool (decide (i < j)))) := (Eq.refl _).trans (Eq.refl _)
theorem m_ltS : fLtD (.v (.str x)) (.v (.str y)) Q = Q (.v (.bool (decide (x.cps.toList < y.cps.toList)))) := (Eq.refl _).trans (Eq.refl _)
theorem m_ltT : fLtD (.v (.tuple ds)) (.v (.tuple es)) Q = (PySem.W.alike (.tuple ds) (.tuple es) = true ∧ PyData.depth (.tuple ds) ≤ 60 ∧ (PyData.hasDict (.tuple ds) = false ∧ PyData.hasDict (.tuple es) = false) ∧ Q (.v (.bool (PySem.W.dataLt (.tuple ds) (.tuple es))))) := (Eq.refl _).trans (Eq.refl _)
theorem m_geI : fGeA (.v (.int i)) (.v (.int j)) Q = Q (.v (.bool (decide (j ≤ i)))) := by simp [fGeA]
theorem m_chain : vChain f g ta tb tc ρ Q = ta ρ fun a => tb ρ fun b => f a b fun s => isB s fun k => if k = true then tc ρ fun c => g b c Q else Q (.v (.bool false)) := (Eq.refl _).trans (Eq.refl _)
theorem m_ord : fOrd [.v (.str ⟨#[c]⟩)] Q = Q (.v (.int (c : Nat))) := by
  unfold fOrd
  refine propext ⟨fun ⟨c', e, h⟩ => ?_, fun h => ⟨c, rfl, h⟩⟩
  simp only [List.cons.injEq, SV.v.injEq, PyData.str.injEq, Str.mk.injEq, and_true] at e
  have : c = c' := by simpa using e
  rw [this]; exact h
theorem m_kin : vKIn neg kds t ρ Q = t ρ fun s => ∃ z, s = .v (.str z) ∧ Q (.v (.bool (if neg then !(sFind kds z).isSome else (sFind kds z).isSome))) := (Eq.refl _).trans (Eq.refl _)
theorem m_kget : vKGet kds t ρ Q = t ρ fun s => ∃ z e, s = .v (.str z) ∧ sFind kds z = some e ∧ Q (.v e) := (Eq.refl _).trans (Eq.refl _)
theorem str_ex {P : Str → Prop} : (∃ y, SV.v (.str x) = .v (.str y) ∧ P y) ↔ P x :=
  ⟨fun ⟨b, e, h⟩ => by injection e with e; injection e with e; rw [e]; exact h, fun h => ⟨x, rfl, h⟩⟩
theorem str_ex2 {α : Type} {P : Str → α → Prop} : (∃ y w, SV.v (.str x) = .v (.str y) ∧ P y w) ↔ ∃ w, P x w :=
  ⟨fun ⟨b, w, e, h⟩ => by injection e with e; injection e with e; rw [e]; exact ⟨w, h⟩, fun ⟨w, h⟩ => ⟨x, w, rfl, h⟩⟩
theorem m_tupR {t : TV} : vTupR t ρ Q = t ρ fun s => ∃ n : Nat, s = .v (.int n) ∧ n ≤ 100000 ∧ Q (.v (.tuple ((List.range n).map fun i => .int (i : Nat)))) := (Eq.refl _).trans (Eq.refl _)
theorem s_disp {i n : Nat} {fs : List (Str × TF)} : vDisp i fs n t ts E ρ = t ρ fun s => ∃ z tf, s = .v (.str z) ∧ sFind fs z = some tf ∧ i < ρ.length ∧ ts (ρ.set i .un) fun ss => TapsOld (ρ.set i .un) ss ∧ ∃ zs, hands ss = some zs ∧ zs.length = n ∧ tf zs fun s => ∃ z, s.hand = some z ∧ E.rt z := (Eq.refl _).trans (Eq.refl _)
theorem m_dsp {kts : List (L2.Key × TV)} : vDsp kts ρ Q = vPairs kts ρ fun kvs => Q (.dct kvs) := (Eq.refl _).trans (Eq.refl _)
theorem m_pairs0 {Q : List (L2.Key × PyData) → Prop} : vPairs [] ρ Q = Q [] := (Eq.refl _).trans (Eq.refl _)
theorem m_pairs1 {k : L2.Key} {r : List (L2.Key × TV)} {Q : List (L2.Key × PyData) → Prop} : vPairs ((k, t) :: r) ρ Q = t ρ fun s => ∃ d, s = .v d ∧ vPairs r ρ fun ps => Q ((k, d) :: ps) := (Eq.refl _).trans (Eq.refl _)
theorem m_zip {Q : List PyData → Prop} : vZip ts ρ Q = ts ρ fun ss => ∃ ds es, (ss = [.v (.tuple ds), .v (.tuple es)] ∨ ss = [.v (.list ds), .v (.list es)]) ∧ Q (zipD ds es) := (Eq.refl _).trans (Eq.refl _)
theorem zip_t {ds es : List PyData} {Q : List PyData → Prop} (h : Q (zipD ds es)) : ∃ ds' es', ([SV.v (.tuple ds), SV.v (.tuple es)] = [.v (.tuple ds'), .v (.tuple es')] ∨ [SV.v (.tuple ds), SV.v (.tuple es)] = [.v (.list ds'), .v (.list es')]) ∧ Q (zipD ds' es') := ⟨ds, es, .inl rfl, h⟩
theorem s_callP {n1 n2 n : Nat} {js : List Nat} {tf : TF} : vCallP n1 n2 n js tf ts tk ρ Q = ts ρ fun ss => tk ρ fun zs => TapsOld ρ (sel js (ss ++ zs)) ∧ ∃ us, hands (sel js (ss ++ zs)) = some us ∧ ss.length = n1 ∧ zs.length = n2 ∧ us.length = n ∧ tf us Q := (Eq.refl _).trans (Eq.refl _)
theorem sel_nil {α : Type} {l : List α} : sel [] l = [] := rfl
theorem sel_at {j : Nat} {js : List Nat} {α : Type} {l : List α} : sel (j :: js) l = (match l[j]? with | some x => x :: sel js l | none => sel js l) := by
  unfold sel
  rw [List.filterMap_cons]
  cases l[j]? <;> rfl
end
end VL
namespace VL
open PySem PySem.Spec PyProof.Rows L2 VG
section
variable {X : Cx} {K : PySem.W.Frag}
/-! ### str(x) -/
abbrev rStr1 : List V → Hp → L2.VK → Prop := fun xs H Q => (∃ i, xs = [.int i] ∧ i.natAbs.log2 < 1920 ∧ Q (.str (Str.ofString (toString i))) H) ∨ (∃ b, xs = [.bl b] ∧ Q (.str (if b = true then Str.ofString "True" else Str.ofString "False")) H) ∨ ∃ z, xs = [.str z] ∧ Q (.str z) H
theorem cr_strB : CallR X (.type "str") fun xs H Q => ∃ b, xs = [.bl b] ∧ Q (.str (if b = true then Str.ofString "True" else Str.ofString "False")) H := by
  intro pins s σ H xs us Q I r h
  obtain ⟨b, rfl, q⟩ := h
  obtain ⟨u, rfl, e⟩ := L2.vals1 r
  cases e
  exact P.str_of_bool ⟨.str _, H, Inv.tok I (s.toks + 1), ⟨s.toks, rfl⟩, q⟩
theorem cr_str1 : CallR X (.type "str") rStr1 := by
  intro pins s σ H xs us Q I r h
  rcases h with h | h | h
  · exact call_str_int pins s σ H xs us Q I r h
  · exact cr_strB pins s σ H xs us Q I r h
  · exact SkE.call_str_str pins s σ H xs us Q I r h
def fStr1 : FC := fun ss Q => (∃ i, ss = [.v (.int i)] ∧ i.natAbs.log2 < 1920 ∧ Q (.v (.str (Str.ofString (toString i))))) ∨ (∃ b, ss = [.v (.bool b)] ∧ Q (.v (.str (if b = true then Str.ofString "True" else Str.ofString "False")))) ∨ ∃ z, ss = [.v (.str z)] ∧ Q (.v (.str z))
theorem cs_str1 : CallS K rStr1 fStr1 := by
  intro F H us ss Q R fo al q k
  rcases q with ⟨i, e, c, q⟩ | ⟨b, e, q⟩ | ⟨z, e, q⟩
  · subst e
    obtain ⟨u, rfl, h⟩ := ah1 al
    exact .inl ⟨i, by rw [int_of h], c, k _ _ F H q (fun _ _ z => nomatch z) (.same fo (.str _))⟩
  · subst e
    obtain ⟨u, rfl, h⟩ := ah1 al
    exact .inr (.inl ⟨b, by rw [bool_of h], k _ _ F H q (fun _ _ z => nomatch z) (.same fo (.str _))⟩)
  · subst e
    obtain ⟨u, rfl, h⟩ := ah1 al
    exact .inr (.inr ⟨z, by rw [str_of h], k _ _ F H q (fun _ _ z => nomatch z) (.same fo (.str _))⟩)
/-! ### a text's method without an argument -/
def vM0 (C : Str → Prop) (g : Str → Str) (t : TV) : TV := fun ρ Q => t ρ fun s => ∃ z, s = .v (.str z) ∧ C z ∧ Q (.v (.str (g z)))
theorem ve_m0 {κ : Nat} {e o : Expr} {C : Str → Prop} {g : Str → Str} {t : TV} (h : ∀ te, PE X o te → PE X e (tM0 (fun x xs H Q => ∃ a, x = .str a ∧ xs = [] ∧ C a ∧ Q (.str (g a)) H) te)) (ho : VE X o t κ) : VE X e (vM0 C g t) κ := by
  obtain ⟨te, pe, ge⟩ := ho
  refine ⟨_, h te pe, fun B F H σ ρ Q R er bq q k => ?_⟩
  refine ge B F H σ ρ _ _ er bq q fun s u F' H' cq ⟨z, e1, c, q⟩ x => ?_
  subst e1
  have e := str_of x.sr
  exact ⟨⟨z, e⟩, z, e, rfl, c, k _ _ F' H' cq q ⟨x.toExt, .str _, trivial⟩⟩
/-! ### a dict of defs of this frame: x = {k: f, ..}; x[k] = f; x[e](e, ..) -/
theorem wpAny_Call_Sub {M : Model} {A : Around} {E : Value → Shared → Prop} {s : Shared} {env : PySem.Env} {a b : Expr} {np pos : Pos} {args : List Expr} {keywords : List Keyword} {Q : Value → Shared → Prop}
    (h : wpAny M A (eval (Expr.Subscript a b np) env) (fun f s₁ => wpAny M A (callWith pos f [] (backTo pos (starEach args env)) (backToKw pos (keywordEach keywords env))) Q E s₁) E s) :
    wpAny M A (eval ((Expr.Subscript a b np).Call args keywords pos) env) Q E s := id (wpAny_bind h)
variable {k n κ i : Nat} {p pos : Pos} {e c o : Expr} {es : List Expr} {ta tsub : TE}
theorem gp_callS {ta : TA} (hr : Room k X.A) (gd : Still X.A) (ps : PE X (.Subscript c o p) tsub) (ha : PA X (e :: es) ta)
    (he : starEach (e :: es) X.env = (false, eval e X.env) :: starEach es X.env := by rfl) (hpl : (backTo pos (starEach es X.env)).any (·.1) = false := by rfl) :
    PE X (.Call (.Subscript c o p) (e :: es) [] pos) (fun σ H Q => tsub σ H fun v H1 => ∃ f tf, v = .ref f ∧ Hld X.prog X.w X.K X.mg X.base k f n κ tf ∧ ta σ H1 fun vs H2 => spOf X.K n κ tf vs H2 Q E0) := by
  refine ⟨fun pins s σ H Q I h => ?_⟩
  refine wpAny_Call_Sub (thn (ps.run pins s σ H _ I h) fun u s1 q => ?_)
  obtain ⟨v, H1, I1, r1, f, tf, rfl, A, ht⟩ := q
  obtain ⟨fd, ps, F, hk, hb⟩ := A.ex
  cases r1
  refine PySem.W.callWith_K (h₀ := X.base) I1.ok.mod.kin hk (thn (ha.run pos pins s1 σ _ _ I1 ht) fun us s2 q => ?_) he hpl
  obtain ⟨vs, H2, I2, r, q⟩ := q
  have bt := hb s2 us I2.kIn
  rw [List.append_nil] at bt
  exact ⟨I2.kIn, go_fn (kw := []) F hr gd bt pass0 I2 r q⟩
/-- the defs of a dict by their written keys -/
def HldK (X : Cx) (k n κ : Nat) (kvs : List (L2.Key × V)) (fs : List (Str × TF)) : Prop := ∀ z tf, sFind fs z = some tf → ∃ f, valV kvs (.inr z) = some (.ref f) ∧ Hld X.prog X.w X.K X.mg X.base k f n κ tf
def vCallS (i : Nat) (kvs : List (L2.Key × V)) (fs : List (Str × TF)) (n : Nat) (t : TV) (ts : TVs) : TV := fun ρ Q => ρ[i]? = some (.fns kvs) ∧ t ρ fun s => ∃ z tf, s = .v (.str z) ∧ sFind fs z = some tf ∧ ts ρ fun ss => TapsOld ρ ss ∧ ∃ zs, hands ss = some zs ∧ zs.length = n ∧ tf zs Q
theorem ve_callS {κ1 κ2 : Nat} {kvs : List (L2.Key × V)} {fs : List (Str × TF)} {t : TV} {ts : TVs} (hh : HldK X k n κ kvs fs) (hr : Room k X.A) (gd : Still X.A) (pc : PE X c (tVar i)) (ho : VE X o t κ1) (hs : NoSl o) (ha : VA X (e :: es) ts κ2)
    (he : starEach (e :: es) X.env = (false, eval e X.env) :: starEach es X.env := by rfl) (hpl : (backTo pos (starEach es X.env)).any (·.1) = false := by rfl) :
    VE X (.Call (.Subscript c o p) (e :: es) [] pos) (vCallS i kvs fs n t ts) (κ1 + κ2 + κ) := by
  obtain ⟨te, pe, ge⟩ := ho
  obtain ⟨ta, pa, ga⟩ := ha
  refine ⟨_, gp_callS (n := n) (κ := κ) hr gd (pe_dget (hu_of hr) pc pe hs) pa he hpl, fun B F H σ ρ Q R er bq ⟨hi, q⟩ kk => ?_⟩
  obtain ⟨u, hu, d, rfl, fd, hd⟩ := er.sl i _ hi (fun z => nomatch z)
  refine ⟨.ref d, hu, ?_⟩
  refine ge B F H σ ρ _ _ er (by omega) q fun s u F1 H1 cq ⟨z, tf, e1, e2, q⟩ x => ?_
  subst e1
  obtain ⟨f, h1, h3⟩ := hh z tf e2
  have ez := str_of x.sr
  subst ez
  have hd1 := x.st.fk d _ fd hd
  refine ⟨d, .ref f, rfl, h1 ▸ DGet.k (k := .inr z) hd1, f, tf, rfl, h3, ?_⟩
  refine ga B F1 H1 σ ρ _ _ (er.step x.toExt) (by omega) q fun ss us F2 H2 c2 ⟨ol, zs, ez, hn, q⟩ x2 al => ?_
  have := call_go (dss := []) (vs := []) x2 al ol ez (fun _ _ => .nil) (n := n) (κ := κ) (by simpa using hn) (by omega) (tf := tf) (Q := Q) (by simpa using q) (R := R) fun s u F' H' c3 q r => kk s u F' H' (by omega) q ⟨x.toExt.trans r.toExt, r.sr, r.fo.back x.toExt⟩
  rwa [List.append_nil] at this
theorem upd_upd {H : Hp} {p : Addr} {a b : HO} : upd (upd H p a) p b = upd H p b := by
  funext x
  by_cases h : x = p
  · rw [h, upd_same, upd_same]
  · rw [upd_ne h, upd_ne h, upd_ne h]
theorem fns_res {B : Bas} {F : FS} {H : Hp} {σ : Hs} {ρ : VL.Env} {p : Addr} {kvs : List (L2.Key × V)} (er : ER X.K B F H σ ρ) (hpn : H p = none) : Res X.K ρ F H (F.or (fun x => x = p)) (upd H p (.dK kvs)) (.fns kvs) (.ref p) := by
  have x0 : Ext ρ F H F (upd H p (.dK kvs)) := er.refl.pure (Stp.new hpn) (er.dm.new hpn)
  have nc : ¬ cellsOf ρ p := fun c => er.refl.cp p c hpn
  have nf : ¬ F p := fun z => by
    obtain ⟨o, w, _⟩ := er.dm p z
    rw [hpn] at w; cases w
  have keep : ∀ b o, H b = some o → b ≠ p → upd H p (.dK kvs) b = some o := fun b o e n => by rw [upd_ne n]; exact e
  refine ⟨⟨x0.st.frz (N := fun x => x = p) fun x e => by rw [e]; exact hpn, fun a f => ?_, fun i a ns hc => ?_, er.refl.cp⟩, ⟨p, rfl, .inr rfl, upd_same⟩, trivial⟩
  · rcases f with f | rfl
    · obtain ⟨o, e, l⟩ := er.dm a f
      exact ⟨o, keep a o e (fun z => nf (by rw [← z]; exact f)), l⟩
    · exact ⟨_, upd_same, .dct⟩
  · obtain ⟨nf', c', j, l, n, c1, c2, c3, c4⟩ := x0.cl i a ns hc
    have n1 : a ≠ p := fun z => nc (by rw [← z]; exact ⟨i, ns, hc⟩)
    exact ⟨fun z => z.elim nf' n1, c', j, l, n, c1, .inl c2, c3, c4⟩
def vFns (i : Nat) (kvs : List (L2.Key × V)) (t : TVS) : TVS := fun E ρ => i < ρ.length ∧ t E (ρ.set i (.fns kvs))
theorem vss_fns2 {κ : Nat} {st1 st2 : Stmt} {sts : List Stmt} {kvs : List (L2.Key × V)} {k0 : L2.Key} {v0 : V} {t : TVS} (h1 : PS X st1 (tAsg (tDisp (kvs.map fun kv => (kC kv.1, tC kv.2))) (gName i))) (h2 : PS X st2 (sDPut (tVar i) (kC k0) (tC v0)))
    (hn : ((kvs ++ [(k0, v0)]).map (·.1)).Nodup) (hl : kvs.length ≤ 15) (hr : VSs X sts t κ) : VSs X (st1 :: st2 :: sts) (vFns i (kvs ++ [(k0, v0)]) t) κ := by
  obtain ⟨ts, ps, g⟩ := hr
  refine ⟨_, pss_cons h1 (pss_cons h2 ps), fun B F H σ ρ E D er bq ⟨hi, q⟩ kk => ?_⟩
  have tp : ∀ (kvs : List (L2.Key × V)) (H : Hp) (Q : List (V × V) → Hp → Prop), Q (kvs.map fun kv => (kV kv.1, kv.2)) H → tPairs (kvs.map fun kv => (kC kv.1, tC kv.2)) σ H Q := by
    intro kvs
    induction kvs with
    | nil => intro H Q h; exact h
    | cons kv kvs ih =>
      intro H Q h
      show kC kv.1 σ H fun x H1 => tC kv.2 σ H1 fun y H2 => tPairs _ σ H2 fun ps H3 => Q ((x, y) :: ps) H3
      exact ih H _ h
  have hn1 : (kvs.map (·.1)).Nodup := by
    rw [List.map_append, List.nodup_append] at hn
    exact hn.1
  have hk0 : k0 ∉ kvs.map (·.1) := by
    rw [List.map_append, List.nodup_append] at hn
    exact fun z => hn.2.2 _ z _ (List.mem_cons_self ..) rfl
  intro p hpn
  refine tp kvs _ _ ⟨upd_same, kvs, rfl, hl, ?_⟩
  rw [merge_new kvs [] (by rw [List.nil_append]; exact hn1), List.nil_append, upd_upd]
  refine ⟨.ref p, by rw [List.getElem?_set_self (by rw [er.len]; exact hi)], p, _, rfl, DPut.k (k := k0) upd_same (by have : sizeLine = 16777216 := rfl; omega), ?_⟩
  rw [put_new hk0, upd_upd]
  exact g B (F.or (fun x => x = p)) _ _ _ E D (er.set (fns_res er hpn) (fun _ _ z => nomatch z) i) bq q kk
theorem HldK.of {kvs : List (L2.Key × V)} {fs : List (Str × TF)} (h : Paired (fun kv nf => kv.1 = .inr nf.1 ∧ ∃ f, kv.2 = .ref f ∧ Hld X.prog X.w X.K X.mg X.base k f n κ nf.2) kvs fs) : HldK X k n κ kvs fs := by
  intro z tf e
  induction kvs generalizing fs with
  | nil => cases h; cases e
  | cons kv kvs ih =>
    cases h with
    | cons a r =>
      rename_i nf fs
      obtain ⟨h1, f, h2, h3⟩ := a
      unfold sFind at e
      unfold valV
      rw [List.find?_cons] at e ⊢
      by_cases hz : nf.1 = z
      · rw [show (nf.1 == z) = true from by rw [hz]; exact beq_self_eq_true _] at e
        cases e
        refine ⟨f, ?_, h3⟩
        rw [decide_eq_true (show kv.1 = (.inr z : L2.Key) by rw [h1, hz])]
        show some kv.2 = _
        rw [h2]
      · rw [show (nf.1 == z) = false from by rw [beq_eq_false_iff_ne]; exact hz] at e
        rw [decide_eq_false (show ¬ kv.1 = (.inr z : L2.Key) by rw [h1]; exact fun q => hz (Sum.inr.inj q))]
        exact ih r e
end
theorem gok_imp {P : Program} {w : World} {K : PySem.W.Frag} {mg : Str → Option Value} {base : Heap} {k : Nat} {f : Addr} {fd : FuncData} {ps : List Str} {sp sp' : Sp} (g : GOk P w K mg base CX0 k f fd ps sp)
    (h : ∀ vs H Q E, sp' vs H Q E → sp vs H Q E) : GOk P w K mg base CX0 k f fd ps sp' :=
  ⟨fun vs H Q E q => g.len vs H Q E (h _ _ _ _ q), fun A r s o sh H e a us vs Q E b v q => g.go A r s o sh H e a us vs Q E b v (h _ _ _ _ q)⟩
end VL
namespace VL
open PySem PySem.Spec PyProof.Rows L2 VG

/-! ### looking a key up, the key any tuple -/
section
variable {X : Cx} {pins : List (Addr × Obj)} {σ : L2.St} {H : Hp} {s : Shared} {a : Addr} {y d : V} {u r : Value} {o : Option V} {A : Around} {E : Value → Shared → Prop}
def DG (K : PySem.W.Frag) (H : Hp) (a : Addr) (y : V) (o : Option V) : Prop :=
  (∃ kvs k, Rd H a (.dK kvs) ∧ y = kV k ∧ o = valV kvs k) ∨ (∃ kvs k b, Rd H a (.dT kvs) ∧ y = .ref b ∧ SqT K H b (k.map kV) ∧ o = valV kvs k)
theorem key_sq {b : Addr} {k : List L2.Key} (I : Inv X pins σ H s) (h : SqT X.K H b (k.map kV)) : (tupleKind (mixKind X.prog X.w)).is s.heap k b := by
  obtain ⟨its, rv, ⟨ob, h1, h2, n, h3⟩, _⟩ := I.tuple h
  have ia := items_are (P := X.prog) (w := X.w) rv
  exact ⟨ob, its.toArray, n, h1, h2, h3, by simpa using ia⟩
theorem DG.isD {K : PySem.W.Frag} (g : DG K H a y o) : IsD H a := by
  rcases g with ⟨kvs, _, e, _⟩ | ⟨kvs, _, _, e, _⟩
  · exact .inl ⟨kvs, e⟩
  · exact .inr ⟨kvs, e⟩
theorem g_item {v : V} {Q : Value → Shared → Prop} (hu : A.units + 1 < cLine) (I : Inv X pins σ H s) (g : DG X.K H a y (some v)) (ry : RelV y u) (h : ∀ w' s', Inv X pins σ H s' → RelV v w' → Q w' s') :
    wpAny (model X.prog X.w) A (getItem (.ref a) u) Q E s := by
  rcases g with ⟨kvs, k, e, ey, l⟩ | ⟨kvs, k, b, e, ey, sq, l⟩
  · exact d_getItem hu I (.inl ⟨kvs, k, e, ey, l⟩) ry h
  · subst ey
    obtain rfl : u = Value.ref b := ry
    obtain ⟨_, hd, xs, rel, dd⟩ := dt_rd I.hok e
    have q := rel.val k
    rw [← l] at q
    obtain ⟨w', hw, rw'⟩ := RelO.some_of q
    obtain ⟨p, hp, rfl⟩ := Option.map_eq_some_iff.mp hw
    exact wpAny_getItem_heap (tupleKind_room_in1 hu) (key_sq I sq) dd hp (h _ _ (I.tok _) rw')
theorem g_in {Q : Value → Shared → Prop} (hu : A.units + 1 < cLine) (I : Inv X pins σ H s) (g : DG X.K H a y o) (ry : RelV y u) (h : ∀ s', Inv X pins σ H s' → Q (.bool o.isSome) s') :
    wpAny (model X.prog X.w) A (compareOp .In u (.ref a)) Q E s := by
  rcases g with ⟨kvs, k, e, ey, l⟩ | ⟨kvs, k, b, e, ey, sq, l⟩
  · exact d_in hu I (.inl ⟨kvs, k, e, ey, l⟩) ry h
  · subst ey
    obtain rfl : u = Value.ref b := ry
    obtain ⟨_, hd, xs, rel, dd⟩ := dt_rd I.hok e
    have q := (rel.val k).isSome_eq
    rw [Option.isSome_map, ← l] at q
    rw [q] at h
    exact wpAny_in_heap (tupleKind_room_in1 hu) (key_sq I sq) hd dd (h _ (I.tok _))
theorem g_notIn {Q : Value → Shared → Prop} (hu : A.units + 1 < cLine) (I : Inv X pins σ H s) (g : DG X.K H a y o) (ry : RelV y u) (h : ∀ s', Inv X pins σ H s' → Q (.bool (!o.isSome)) s') :
    wpAny (model X.prog X.w) A (compareOp .NotIn u (.ref a)) Q E s := by
  rcases g with ⟨kvs, k, e, ey, l⟩ | ⟨kvs, k, b, e, ey, sq, l⟩
  · exact d_notIn hu I (.inl ⟨kvs, k, e, ey, l⟩) ry h
  · subst ey
    obtain rfl : u = Value.ref b := ry
    obtain ⟨_, hd, xs, rel, dd⟩ := dt_rd I.hok e
    have q := (rel.val k).isSome_eq
    rw [Option.isSome_map, ← l] at q
    rw [q] at h
    exact wpAny_notIn_heap (tupleKind_room_in1 hu) (key_sq I sq) hd dd (h _ (I.tok _))
theorem g_get1 {Q : Value → Shared → Prop} (hu : A.units + 1 < cLine) (I : Inv X pins σ H s) (g : DG X.K H a y o) (ry : RelV y u) (h : ∀ w' s', Inv X pins σ H s' → RelV (o.getD .non) w' → Q w' s') :
    wpAny (model X.prog X.w) A (call (.builtin "dict.get") [.ref a, u]) Q E s := by
  rcases g with ⟨kvs, k, e, ey, l⟩ | ⟨kvs, k, b, e, ey, sq, l⟩
  · exact d_get1 hu I (.inl ⟨kvs, k, e, ey, l⟩) ry h
  · subst ey
    obtain rfl : u = Value.ref b := ry
    obtain ⟨_, hd, xs, rel, dd⟩ := dt_rd I.hok e
    have q := (rel.val k).getD (d := .non) rfl
    rw [← l] at q
    exact call_meetsIn PySem.F.slot_dict_get dd.typeIs PySem.F.entry_dict_get (PySem.F.args_dict_get_2 _ _) (meetsH_dict_get (tupleKind (mixKind X.prog X.w)) a b hd)
      ⟨tupleKind_room_in1 hu, k, xs, key_sq I sq, dd, h _ _ (I.tok _) q⟩
theorem g_get2 {Q : Value → Shared → Prop} (hu : A.units + 1 < cLine) (I : Inv X pins σ H s) (g : DG X.K H a y o) (ry : RelV y u) (rd : RelV d r) (h : ∀ w' s', Inv X pins σ H s' → RelV (o.getD d) w' → Q w' s') :
    wpAny (model X.prog X.w) A (call (.builtin "dict.get") [.ref a, u, r]) Q E s := by
  rcases g with ⟨kvs, k, e, ey, l⟩ | ⟨kvs, k, b, e, ey, sq, l⟩
  · exact d_get2 hu I (.inl ⟨kvs, k, e, ey, l⟩) ry rd h
  · subst ey
    obtain rfl : u = Value.ref b := ry
    obtain ⟨_, hd, xs, rel, dd⟩ := dt_rd I.hok e
    have q := (rel.val k).getD rd
    rw [← l] at q
    exact call_meetsIn PySem.F.slot_dict_get dd.typeIs PySem.F.entry_dict_get (PySem.F.args_dict_get_3 _ _ _) (meetsH_dict_get_default (tupleKind (mixKind X.prog X.w)) a b hd r)
      ⟨tupleKind_room_in1 hu, k, xs, key_sq I sq, dd, h _ _ (I.tok _) q⟩
end

section
variable {X : Cx} {o i e f : Expr} {pos apos cpos : Pos} {td ty tx : TE}
def tGItem (K : PySem.W.Frag) (td ty : TE) : TE := fun σ H Q => td σ H fun x H1 => ty σ H1 fun y H2 => ∃ a v, x = .ref a ∧ DG K H2 a y (some v) ∧ Q v H2
def tGIn (K : PySem.W.Frag) (ty td : TE) : TE := fun σ H Q => ty σ H fun y H1 => td σ H1 fun x H2 => ∃ a o, x = .ref a ∧ DG K H2 a y o ∧ Q (.bl o.isSome) H2
def tGNotIn (K : PySem.W.Frag) (ty td : TE) : TE := fun σ H Q => ty σ H fun y H1 => td σ H1 fun x H2 => ∃ a o, x = .ref a ∧ DG K H2 a y o ∧ Q (.bl (!o.isSome)) H2
def tGGet1 (K : PySem.W.Frag) (td ty : TE) : TE := fun σ H Q => td σ H fun x H1 => ∃ a, x = .ref a ∧ IsD H1 a ∧ ty σ H1 fun y H2 => ∃ o, DG K H2 a y o ∧ Q (o.getD .non) H2
def tGGet2 (K : PySem.W.Frag) (td ty tx : TE) : TE := fun σ H Q => td σ H fun x H1 => ∃ a, x = .ref a ∧ IsD H1 a ∧ ty σ H1 fun y H2 => tx σ H2 fun z H3 => ∃ o, DG K H3 a y o ∧ Q (o.getD z) H3
theorem pe_gitem (hu : X.A.units + 1 < cLine) (ho : PE X o td) (hi : PE X i ty) (hs : NoSl i) : PE X (.Subscript o i pos) (tGItem X.K td ty) :=
  ⟨fun pins s σ H Q I h => subD_of PySem.F.slot_dict_getitem.lookup hs (thn (ho.run pins s σ H _ I h) fun u s1 ⟨x, H1, I1, rx, q1⟩ => thn (hi.run pins s1 σ H1 _ I1 q1) fun iv s2 ⟨y, H2, I2, ry, a, v, ex, g, q2⟩ => by
    subst ex
    obtain rfl : u = Value.ref a := rx
    exact ⟨(isD_at I2 g.isD).1, g_item hu I2 g ry fun w' s3 I3 rw' => ⟨v, H2, I3, rw', q2⟩⟩)⟩
theorem pc_gin (hu : X.A.units + 1 < cLine) (hi : PE X i ty) (ho : PE X o td) : PC X .In i o (tGIn X.K ty td) :=
  ⟨fun pins s σ H Q I h => thn (hi.run pins s σ H _ I h) fun iv s1 ⟨y, H1, I1, ry, q1⟩ => thn (ho.run pins s1 σ H1 _ I1 q1) fun u s2 ⟨x, H2, I2, rx, a, ov, ex, g, q2⟩ => by
    subst ex
    obtain rfl : u = Value.ref a := rx
    exact g_in hu I2 g ry fun s3 I3 => ⟨.bl ov.isSome, H2, I3, rfl, q2⟩⟩
theorem pc_gnotin (hu : X.A.units + 1 < cLine) (hi : PE X i ty) (ho : PE X o td) : PC X .NotIn i o (tGNotIn X.K ty td) :=
  ⟨fun pins s σ H Q I h => thn (hi.run pins s σ H _ I h) fun iv s1 ⟨y, H1, I1, ry, q1⟩ => thn (ho.run pins s1 σ H1 _ I1 q1) fun u s2 ⟨x, H2, I2, rx, a, ov, ex, g, q2⟩ => by
    subst ex
    obtain rfl : u = Value.ref a := rx
    exact g_notIn hu I2 g ry fun s3 I3 => ⟨.bl (!ov.isSome), H2, I3, rfl, q2⟩⟩
theorem pe_gget1 (hu : X.A.units + 1 < cLine) (ho : PE X o td) (he : PE X e ty) (m : M1 X o "get" apos e cpos) : PE X (.Call (.Attribute o "get" apos) [e] [] cpos) (tGGet1 X.K td ty) :=
  ⟨fun pins s σ H Q I h => wpAny_Call_method m.base m.few m.line PySem.F.plainAttrs_dict PySem.F.slot_dict_get PySem.F.type_dict_get (thn (ho.run pins s σ H _ I h) fun u s1 ⟨x, H1, I1, rx, a, ex, d, q1⟩ => by
    subst ex
    obtain rfl : u = Value.ref a := rx
    obtain ⟨t1, t2, _⟩ := isD_at I1 d
    refine ⟨t1, t2, ?_⟩
    rw [m.trees]
    exact Calls.callWith_builtin rfl (Calls.evalArgs_plain (Calls.spliced_cons (thn (he.run pins s1 σ H1 _ I1 q1) fun iv s2 ⟨y, H2, I2, ry, ov, g, q2⟩ =>
      Calls.spliced_nil (g_get1 hu I2 g ry fun w' s3 I3 rw' => ⟨_, H2, I3, rw', q2⟩)))))⟩
theorem pe_gget2 (hu : X.A.units + 1 < cLine) (ho : PE X o td) (he : PE X e ty) (hf : PE X f tx) (m : M2 X o "get" apos e f cpos) : PE X (.Call (.Attribute o "get" apos) [e, f] [] cpos) (tGGet2 X.K td ty tx) :=
  ⟨fun pins s σ H Q I h => wpAny_Call_method m.base m.few m.line PySem.F.plainAttrs_dict PySem.F.slot_dict_get PySem.F.type_dict_get (thn (ho.run pins s σ H _ I h) fun u s1 ⟨x, H1, I1, rx, a, ex, d, q1⟩ => by
    subst ex
    obtain rfl : u = Value.ref a := rx
    obtain ⟨t1, t2, _⟩ := isD_at I1 d
    refine ⟨t1, t2, ?_⟩
    rw [m.trees]
    exact Calls.callWith_builtin rfl (Calls.evalArgs_plain (Calls.spliced_cons (thn (he.run pins s1 σ H1 _ I1 q1) fun iv s2 ⟨y, H2, I2, ry, q2⟩ =>
      Calls.spliced_cons (thn (hf.run pins s2 σ H2 _ I2 q2) fun fv s3 ⟨z, H3, I3, rz, ov, g, q3⟩ => Calls.spliced_nil (g_get2 hu I3 g ry rz fun w' s4 I4 rw' => ⟨_, H3, I4, rw', q3⟩))))))⟩
end
end VL
namespace VL
open PySem PySem.Spec PyProof.Rows L2 VG

section
variable {κ : Type} [DecidableEq κ]
def gFind (kvs : List (κ × PyData)) (k : κ) : Option PyData := (kvs.find? fun kv => decide (kv.1 = k)).map (·.2)
def gPut (kvs : List (κ × PyData)) (k : κ) (d : PyData) : List (κ × PyData) :=
  if (kvs.any fun kv => decide (kv.1 = k)) = true then kvs.map fun kv => if kv.1 = k then (kv.1, d) else kv else kvs ++ [(k, d)]
def gDrop (kvs : List (κ × PyData)) (k : κ) : List (κ × PyData) := kvs.filter fun kv => decide (kv.1 ≠ k)
theorem gPut_len (kvs : List (κ × PyData)) (k : κ) (d : PyData) : (gPut kvs k d).length ≤ kvs.length + 1 := by
  unfold gPut
  split
  · rw [List.length_map]; omega
  · simp
theorem gFind_nil {k : κ} : gFind ([] : List (κ × PyData)) k = none := rfl
theorem gFind_cons {k k' : κ} {d : PyData} {r : List (κ × PyData)} : gFind ((k', d) :: r) k = if k' = k then some d else gFind r k := by
  unfold gFind
  rw [List.find?_cons]
  by_cases h : k' = k
  · simp [h]
  · simp [h]
theorem gFind_any {kvs : List (κ × PyData)} {k : κ} : (kvs.any fun kv => decide (kv.1 = k)) = (gFind kvs k).isSome := by
  induction kvs with
  | nil => rfl
  | cons p r ih =>
    obtain ⟨k', d⟩ := p
    rw [gFind_cons, List.any_cons, ih]
    by_cases h : k' = k <;> simp [h]
theorem gFind_put (kvs : List (κ × PyData)) (k j : κ) (d : PyData) : gFind (gPut kvs k d) j = if j = k then some d else gFind kvs j := by
  unfold gPut
  split
  next h =>
    induction kvs with
    | nil => cases h
    | cons p r ih =>
      obtain ⟨k', e⟩ := p
      rw [List.map_cons]
      by_cases hk : k' = k
      · subst hk
        simp only [if_true]
        rw [gFind_cons, gFind_cons]
        by_cases hj : j = k'
        · subst hj; simp
        · rw [if_neg (fun z => hj z.symm), if_neg hj, if_neg (fun z => hj z.symm)]
          clear ih h
          induction r with
          | nil => rfl
          | cons q r ih =>
            obtain ⟨k2, e2⟩ := q
            rw [List.map_cons]
            by_cases h2 : k2 = k'
            · simp only [h2, if_true]
              rw [gFind_cons, gFind_cons, if_neg (fun z => hj z.symm), if_neg (fun z => hj z.symm)]
              exact ih
            · simp only [h2, if_false]
              rw [gFind_cons, gFind_cons, ih]
      · simp only [hk, if_false]
        rw [gFind_cons, gFind_cons]
        have h' : (r.any fun kv => decide (kv.1 = k)) = true := by simpa [hk] using h
        rw [ih h']
        by_cases hj : j = k
        · subst hj; simp [hk]
        · simp [hj]
  next h =>
    rw [Bool.not_eq_true] at h
    induction kvs with
    | nil =>
      rw [List.nil_append, gFind_cons]
      by_cases hj : j = k
      · simp [hj]
      · rw [if_neg (fun z => hj z.symm), if_neg hj]
    | cons p r ih =>
      obtain ⟨k', e⟩ := p
      rw [List.cons_append, gFind_cons, gFind_cons]
      simp only [List.any_cons, Bool.or_eq_false_iff, decide_eq_false_iff_not] at h
      rw [ih h.2]
      by_cases hj : j = k
      · subst hj
        rw [if_neg h.1]; simp
      · simp [hj]
theorem gPut_keys (kvs : List (κ × PyData)) (k : κ) (d : PyData) : (gPut kvs k d).map (·.1) = if (gFind kvs k).isSome = true then kvs.map (·.1) else kvs.map (·.1) ++ [k] := by
  unfold gPut
  rw [gFind_any]
  split
  · rw [List.map_map]
    apply List.map_congr_left
    intro kv _
    show (if kv.1 = k then (kv.1, d) else kv).1 = kv.1
    split <;> rfl
  · simp
variable {K : PySem.W.Frag} {F : FS} {H : Hp}
theorem g_find : ∀ {us : List (κ × V)} {kvs : List (κ × PyData)}, us.map (·.1) = kvs.map (·.1) → RA K F H (us.map (·.2)) (kvs.map (·.2)) → ∀ k, (gFind kvs k = none ∧ valV us k = none) ∨ ∃ v d, gFind kvs k = some d ∧ valV us k = some v ∧ R1 K F H v d
  | [], [], _, _, _ => .inl ⟨rfl, rfl⟩
  | [], _ :: _, e, _, _ => by cases e
  | _ :: _, [], e, _, _ => by cases e
  | (k1, v) :: us, (k2, d) :: kvs, e, r, k => by
    simp only [List.map_cons, List.cons.injEq] at e
    obtain ⟨rfl, e⟩ := e
    obtain ⟨r1, r2⟩ := RA.uncons (by simpa only [List.map_cons] using r)
    by_cases z : k1 = k
    · subst z
      exact .inr ⟨v, d, by simp [gFind], by simp [valV], r1⟩
    · have h1 : gFind ((k1, d) :: kvs) k = gFind kvs k := by simp [gFind, z]
      have h2 : valV ((k1, v) :: us) k = valV us k := by simp [valV, z]
      rw [h1, h2]
      exact g_find e r2 k
theorem g_any : ∀ {us : List (κ × V)} {kvs : List (κ × PyData)}, us.map (·.1) = kvs.map (·.1) → ∀ k, (us.any fun kv => decide (kv.1 = k)) = kvs.any fun kv => decide (kv.1 = k)
  | [], [], _, _ => rfl
  | [], _ :: _, e, _ => by cases e
  | _ :: _, [], e, _ => by cases e
  | (k1, v) :: us, (k2, d) :: kvs, e, k => by
    simp only [List.map_cons, List.cons.injEq] at e
    obtain ⟨rfl, e⟩ := e
    simp only [List.any_cons, g_any e k]
theorem g_repl {v : V} {d : PyData} (r1 : R1 K F H v d) (k : κ) : ∀ {us : List (κ × V)} {kvs : List (κ × PyData)}, us.map (·.1) = kvs.map (·.1) → RA K F H (us.map (·.2)) (kvs.map (·.2)) →
    (us.map fun kv => if kv.1 = k then (kv.1, v) else kv).map (·.1) = (kvs.map fun kv => if kv.1 = k then (kv.1, d) else kv).map (·.1) ∧
      RA K F H ((us.map fun kv => if kv.1 = k then (kv.1, v) else kv).map (·.2)) ((kvs.map fun kv => if kv.1 = k then (kv.1, d) else kv).map (·.2))
  | [], [], _, _ => ⟨rfl, .nil⟩
  | [], _ :: _, e, _ => by cases e
  | _ :: _, [], e, _ => by cases e
  | (k1, v1) :: us, (k2, d2) :: kvs, e, r => by
    simp only [List.map_cons, List.cons.injEq] at e
    obtain ⟨rfl, e⟩ := e
    obtain ⟨a1, a2⟩ := RA.uncons (by simpa only [List.map_cons] using r)
    obtain ⟨b1, b2⟩ := g_repl r1 k e a2
    by_cases z : k1 = k
    · simp only [List.map_cons, z, if_true]
      exact ⟨by rw [b1], .cons r1 b2⟩
    · simp only [List.map_cons, z, if_false]
      exact ⟨by rw [b1], .cons a1 b2⟩
theorem g_put {us : List (κ × V)} {kvs : List (κ × PyData)} {v : V} {d : PyData} {k : κ} (e : us.map (·.1) = kvs.map (·.1)) (r : RA K F H (us.map (·.2)) (kvs.map (·.2))) (r1 : R1 K F H v d) :
    (putK us k v).map (·.1) = (gPut kvs k d).map (·.1) ∧ RA K F H ((putK us k v).map (·.2)) ((gPut kvs k d).map (·.2)) := by
  unfold putK gPut
  rw [g_any e]
  by_cases h : (kvs.any fun kv => decide (kv.1 = k)) = true
  · simp only [h, if_true]
    exact g_repl r1 k e r
  · rw [if_neg h, if_neg h]
    refine ⟨by rw [List.map_append, List.map_append, e]; rfl, ?_⟩
    rw [List.map_append, List.map_append]
    exact r.append (.one r1)
theorem g_drop (k : κ) : ∀ {us : List (κ × V)} {kvs : List (κ × PyData)}, us.map (·.1) = kvs.map (·.1) → RA K F H (us.map (·.2)) (kvs.map (·.2)) →
    (dropK us k).map (·.1) = (gDrop kvs k).map (·.1) ∧ RA K F H ((dropK us k).map (·.2)) ((gDrop kvs k).map (·.2))
  | [], [], _, _ => ⟨rfl, .nil⟩
  | [], _ :: _, e, _ => by cases e
  | _ :: _, [], e, _ => by cases e
  | (k1, v1) :: us, (k2, d2) :: kvs, e, r => by
    simp only [List.map_cons, List.cons.injEq] at e
    obtain ⟨rfl, e⟩ := e
    obtain ⟨a1, a2⟩ := RA.uncons (by simpa only [List.map_cons] using r)
    obtain ⟨b1, b2⟩ := g_drop k e a2
    unfold dropK gDrop at b1 b2 ⊢
    rw [List.filter_cons, List.filter_cons]
    by_cases z : k1 = k
    · simp only [z, ne_eq, not_true_eq_false, decide_false, Bool.false_eq_true, if_false]
      simp only [ne_eq] at b1 b2
      exact ⟨b1, b2⟩
    · simp only [z, ne_eq, not_false_eq_true, decide_true, if_true, List.map_cons]
      simp only [ne_eq] at b1 b2
      exact ⟨by rw [b1], .cons a1 b2⟩
/-- names and values, apart and together -/
theorem zip_of {us : List V} {kvs : List (κ × PyData)} (r : RA K F H us (kvs.map (·.2))) : ((kvs.map (·.1)).zip us).map (·.1) = kvs.map (·.1) ∧ ((kvs.map (·.1)).zip us).map (·.2) = us := by
  have l := r.len
  rw [List.length_map] at l
  exact ⟨List.map_fst_zip (by rw [List.length_map]; omega), List.map_snd_zip (by rw [List.length_map]; omega)⟩
theorem zipV_back {us : List (κ × V)} {ks : List κ} {vs : List V} (h1 : us.map (·.1) = ks) (h2 : us.map (·.2) = vs) : ks.zip vs = us := by
  subst h1 h2
  induction us with
  | nil => rfl
  | cons p r ih => simp only [List.map_cons, List.zip_cons_cons, ih]
end
theorem dFind_g (kvs : List (L2.Key × PyData)) (k : L2.Key) : dFind kvs k = gFind kvs k := rfl

/-! ### the slots -/
abbrev odK (kvs : List (L2.Key × PyData)) : SV := .ow (.K (kvs.map (·.1))) (kvs.map (·.2))
abbrev odT (kvs : List (List L2.Key × PyData)) : SV := .ow (.T (kvs.map (·.1))) (kvs.map (·.2))
abbrev bdK (kvs : List (L2.Key × PyData)) : SV := .bw (.K (kvs.map (·.1))) (kvs.map (·.2))
abbrev bdT (kvs : List (List L2.Key × PyData)) : SV := .bw (.T (kvs.map (·.1))) (kvs.map (·.2))
abbrev fzT (kvs : List (List L2.Key × PyData)) : SV := .fz (kvs.map (·.1)) (kvs.map (·.2))
theorem zipD_back {κ : Type} (kvs : List (κ × PyData)) : (kvs.map (·.1)).zip (kvs.map (·.2)) = kvs := by
  induction kvs with
  | nil => rfl
  | cons p r ih => simp only [List.map_cons, List.zip_cons_cons, ih]
theorem pair_inj {κ : Type} {kvs kvs' : List (κ × PyData)} (h1 : kvs.map (·.1) = kvs'.map (·.1)) (h2 : kvs.map (·.2) = kvs'.map (·.2)) : kvs = kvs' := by
  rw [← zipD_back kvs, ← zipD_back kvs', h1, h2]
theorem kD_inj {a b : L2.Key} (h : kD a = kD b) : a = b := by
  cases a <;> cases b <;> first | (injection h with h; rw [h]) | cases h
theorem kDl_inj : ∀ {a b : List L2.Key}, a.map kD = b.map kD → a = b
  | [], [], _ => rfl
  | [], _ :: _, h => by cases h
  | _ :: _, [], h => by cases h
  | _ :: _, _ :: _, h => by
    simp only [List.map_cons, List.cons.injEq] at h
    rw [kD_inj h.1, kDl_inj h.2]
/-- a dict by ints and texts; by tuples -/
def DicK (s : SV) (kvs : List (L2.Key × PyData)) : Prop := s = odK kvs ∨ s = bdK kvs ∨ s = .v (dKD kvs) ∨ s = .dct kvs
def DicT (s : SV) (kvs : List (List L2.Key × PyData)) : Prop := s = odT kvs ∨ s = bdT kvs ∨ s = fzT kvs
/-- what stands at a key -/
def Lk (a b : SV) (P : Option PyData → Prop) : Prop :=
  (∃ kvs d k, DicK a kvs ∧ b = .v d ∧ keyOf d = some k ∧ P (gFind kvs k)) ∨ ∃ kvs k, DicT a kvs ∧ b = .v (kDs k) ∧ P (gFind kvs k)
section
variable {K : PySem.W.Frag} {F : FS} {H : Hp} {u w : V} {s : SV}
theorem zip_rel : ∀ {ks : List L2.Key} {xs : List V} {ds : List PyData}, RA K F H xs ds → (ks.zip xs).map (·.1) = (ks.zip ds).map (·.1) ∧ RA K F H ((ks.zip xs).map (·.2)) ((ks.zip ds).map (·.2))
  | [], _, _, _ => ⟨rfl, .nil⟩
  | _ :: _, [], [], _ => ⟨rfl, .nil⟩
  | _ :: _, [], _ :: _, h => by cases h
  | _ :: _, _ :: _, [], h => by cases h
  | k :: ks, x :: xs, d :: ds, h => by
    obtain ⟨h1, h2⟩ := RA.uncons h
    obtain ⟨a, b⟩ := zip_rel (ks := ks) h2
    simp only [List.zip_cons_cons, List.map_cons]
    exact ⟨by rw [a], .cons h1 b⟩
theorem dicK_at {kvs : List (L2.Key × PyData)} (h : SlotR K F H u s) (d : DicK s kvs) : ∃ p us, u = .ref p ∧ H p = some (.dK us) ∧ us.map (·.1) = kvs.map (·.1) ∧ RA K F H (us.map (·.2)) (kvs.map (·.2)) := by
  rcases d with rfl | rfl | rfl | rfl
  · obtain ⟨p, us, e, q, _, r⟩ := h
    obtain ⟨z1, z2⟩ := zip_of r
    exact ⟨p, _, e, q, z1, by rw [z2]; exact r⟩
  · obtain ⟨p, us, e, q, r⟩ := h
    obtain ⟨z1, z2⟩ := zip_of r
    exact ⟨p, _, e, q, z1, by rw [z2]; exact r⟩
  · have h : R1 K F H u (.dict (kvs.map fun kv => (kD kv.1, kv.2))) := h
    generalize hl : (kvs.map fun kv => (kD kv.1, kv.2)) = l at h
    cases h with
    | dic f q r =>
      rename_i p ks xs ds
      have e : ks.zip ds = kvs := by
        have : ∀ (a b : List (L2.Key × PyData)), (a.map fun kv => (kD kv.1, kv.2)) = b.map (fun kv => (kD kv.1, kv.2)) → a = b := by
          intro a
          induction a with
          | nil => intro b h; cases b with | nil => rfl | cons _ _ => cases h
          | cons x a ih =>
            intro b h
            cases b with
            | nil => cases h
            | cons y b =>
              simp only [List.map_cons, List.cons.injEq, Prod.mk.injEq] at h
              obtain ⟨x1, x2⟩ := x
              obtain ⟨y1, y2⟩ := y
              have e1 : x1 = y1 := kD_inj h.1.1
              have e2 : x2 = y2 := h.1.2
              rw [ih b h.2, e1, e2]
        exact (this _ _ hl).symm
      subst e
      exact ⟨p, ks.zip xs, rfl, q, (zip_rel r).1, (zip_rel r).2⟩
  · obtain ⟨p, us, e, f, q, k, r⟩ := h
    exact ⟨p, us, e, q, k, r⟩
theorem dicT_at {kvs : List (List L2.Key × PyData)} (h : SlotR K F H u s) (d : DicT s kvs) : ∃ p us, u = .ref p ∧ H p = some (.dT us) ∧ us.map (·.1) = kvs.map (·.1) ∧ RA K F H (us.map (·.2)) (kvs.map (·.2)) := by
  rcases d with rfl | rfl | rfl
  · obtain ⟨p, us, e, q, _, r⟩ := h
    obtain ⟨z1, z2⟩ := zip_of r
    exact ⟨p, _, e, q, z1, by rw [z2]; exact r⟩
  · obtain ⟨p, us, e, q, r⟩ := h
    obtain ⟨z1, z2⟩ := zip_of r
    exact ⟨p, _, e, q, z1, by rw [z2]; exact r⟩
  · obtain ⟨p, us, e, f, q, r⟩ := h
    obtain ⟨z1, z2⟩ := zip_of r
    exact ⟨p, _, e, q, z1, by rw [z2]; exact r⟩
theorem ra_keys : ∀ {us : List V} {k : List L2.Key}, RA K F H us (k.map kD) → us = k.map kV
  | [], [], _ => rfl
  | [], _ :: _, h => by cases h
  | _ :: _, [], h => by cases h
  | u :: us, a :: k, h => by
    obtain ⟨h1, h2⟩ := RA.uncons (by simpa only [List.map_cons] using h)
    rw [List.map_cons, ra_keys h2]
    cases a with
    | inl i => rw [int_of h1]; rfl
    | inr z => rw [str_of h1]; rfl
theorem keyT_of {k : List L2.Key} (h : SlotR K F H u (.v (kDs k))) : ∃ b, u = .ref b ∧ SqT K H b (k.map kV) := by
  cases (show R1 K F H u (.tuple (k.map kD)) from h) with
  | tup q r => exact ⟨_, rfl, by rw [← ra_keys r]; exact q.t⟩
theorem lk_core {P : Option PyData → Prop} {a b : SV} (ra : SlotR K F H u a) (rb : SlotR K F H w b) (h : Lk a b P) : ∃ p o, u = .ref p ∧ DG K H p w o ∧ ((o = none ∧ P none) ∨ ∃ v d, o = some v ∧ R1 K F H v d ∧ P (some d)) := by
  rcases h with ⟨kvs, d, k, dk, rfl, ek, hp⟩ | ⟨kvs, k, dt, rfl, hp⟩
  · obtain ⟨p, us, rfl, q, em, r⟩ := dicK_at ra dk
    refine ⟨p, valV us k, rfl, .inl ⟨us, k, .inl q, key_of rb ek, rfl⟩, ?_⟩
    rcases g_find em r k with ⟨z1, z2⟩ | ⟨x, d2, z1, z2, rr⟩
    · rw [z1] at hp; exact .inl ⟨z2, hp⟩
    · rw [z1] at hp; exact .inr ⟨x, d2, z2, rr, hp⟩
  · obtain ⟨p, us, rfl, q, em, r⟩ := dicT_at ra dt
    obtain ⟨c, rfl, sq⟩ := keyT_of rb
    refine ⟨p, valV us k, rfl, .inr ⟨us, k, c, .inl q, rfl, sq, rfl⟩, ?_⟩
    rcases g_find em r k with ⟨z1, z2⟩ | ⟨x, d2, z1, z2, rr⟩
    · rw [z1] at hp; exact .inl ⟨z2, hp⟩
    · rw [z1] at hp; exact .inr ⟨x, d2, z2, rr, hp⟩
theorem isD_of {a : SV} (ra : SlotR K F H u a) (h : (∃ kvs, DicK a kvs) ∨ ∃ kvs, DicT a kvs) : ∃ p, u = .ref p ∧ IsD H p := by
  rcases h with ⟨kvs, h⟩ | ⟨kvs, h⟩
  · obtain ⟨p, us, rfl, q, _⟩ := dicK_at ra h
    exact ⟨p, rfl, .inl ⟨us, .inl q⟩⟩
  · obtain ⟨p, us, rfl, q, _⟩ := dicT_at ra h
    exact ⟨p, rfl, .inr ⟨us, .inl q⟩⟩
theorem Lk.isDic {a b : SV} {P : Option PyData → Prop} (h : Lk a b P) : (∃ kvs, DicK a kvs) ∨ ∃ kvs, DicT a kvs := by
  rcases h with ⟨kvs, d, k, dk, _⟩ | ⟨kvs, k, dt, _⟩
  · exact .inl ⟨kvs, dk⟩
  · exact .inr ⟨kvs, dt⟩
def fGItem : FB := fun a b Q => Lk a b fun o => ∃ d, o = some d ∧ Q (.v d)
def fGIn (neg : Bool) : FB := fun b a Q => Lk a b fun o => Q (.v (.bool (if neg then !o.isSome else o.isSome)))
theorem ops_gitem : OpS K (fun x y H Q => ∃ a v, x = .ref a ∧ DG K H a y (some v) ∧ Q v H) fGItem := by
  intro F H u w a b Q R fo ra rb h k
  obtain ⟨p, o, rfl, g, z⟩ := lk_core ra rb h
  rcases z with ⟨_, d, e, _⟩ | ⟨v, d, rfl, r, d', e, q⟩
  · cases e
  · cases e
    exact ⟨p, v, rfl, g, k _ _ F H q (fun _ _ z => nomatch z) (.same fo r)⟩
theorem ops_gin : OpS K (fun y x H Q => ∃ a o, x = .ref a ∧ DG K H a y o ∧ Q (.bl o.isSome) H) (fGIn false) := by
  intro F H u w a b Q R fo ra rb h k
  obtain ⟨p, o, rfl, g, z⟩ := lk_core rb ra h
  refine ⟨p, o, rfl, g, ?_⟩
  rcases z with ⟨rfl, q⟩ | ⟨v, d, rfl, r, q⟩
  · exact k _ _ F H q (fun _ _ z => nomatch z) (.same fo (.bl _))
  · exact k _ _ F H q (fun _ _ z => nomatch z) (.same fo (.bl _))
theorem ops_gnotin : OpS K (fun y x H Q => ∃ a o, x = .ref a ∧ DG K H a y o ∧ Q (.bl (!o.isSome)) H) (fGIn true) := by
  intro F H u w a b Q R fo ra rb h k
  obtain ⟨p, o, rfl, g, z⟩ := lk_core rb ra h
  refine ⟨p, o, rfl, g, ?_⟩
  rcases z with ⟨rfl, q⟩ | ⟨v, d, rfl, r, q⟩
  · exact k _ _ F H q (fun _ _ z => nomatch z) (.same fo (.bl _))
  · exact k _ _ F H q (fun _ _ z => nomatch z) (.same fo (.bl _))
end
/-- d.get(k), d.get(k, x) -/
def vGet1 (td ty : TV) : TV := fun ρ Q => td ρ fun a => ((∃ kvs, DicK a kvs) ∨ ∃ kvs, DicT a kvs) ∧ ty ρ fun b => Lk a b fun o => Q (.v (o.getD .none))
def vGet2 (td ty tx : TV) : TV := fun ρ Q => td ρ fun a => ((∃ kvs, DicK a kvs) ∨ ∃ kvs, DicT a kvs) ∧ ty ρ fun b => tx ρ fun z => ∃ d0, z = .v d0 ∧ Lk a b fun o => Q (.v (o.getD d0))
section
variable {X : Cx} {o i e f : Expr} {pos apos cpos : Pos} {td ty tx : TV} {κ1 κ2 κ3 : Nat}
theorem ve_gitem (hu : X.A.units + 1 < cLine) (ho : VE X o td κ1) (hi : VE X i ty κ2) (hs : NoSl i) : VE X (.Subscript o i pos) (vBin fGItem td ty) (κ1 + κ2) := by
  obtain ⟨tea, pa, ga⟩ := ho
  obtain ⟨teb, pb, gb⟩ := hi
  exact ⟨_, pe_gitem hu pa pb hs, bin_go ops_gitem ga gb⟩
theorem vt_gin (hu : X.A.units + 1 < cLine) (hi : VE X i ty κ1) (ho : VE X o td κ2) (hm : behindInMarks .In o = false) : VT X (.Compare i [.In] [o] pos) (vTest (vBin (fGIn false) ty td)) (κ1 + κ2) := by
  obtain ⟨tea, pa, ga⟩ := hi
  obtain ⟨teb, pb, gb⟩ := ho
  refine ⟨_, pt_cmp (pc_gin hu pa pb) hm, fun B F H σ ρ Q R er bq t k => ?_⟩
  refine bin_go ops_gin ga gb B F H σ ρ _ (fun x H1 => ∃ d, x = .bl d ∧ R d H1) er (by omega) t fun s u F' H' cq ⟨c, e, q⟩ r => ?_
  subst e
  exact ⟨c, bool_of r.sr, k c F' H' (by omega) q r.toExt⟩
theorem ve_gin (hu : X.A.units + 1 < cLine) (hi : VE X i ty κ1) (ho : VE X o td κ2) (hm : behindInMarks .In o = false) : VE X (.Compare i [.In] [o] pos) (vBin (fGIn false) ty td) (κ1 + κ2) := by
  obtain ⟨tea, pa, ga⟩ := hi
  obtain ⟨teb, pb, gb⟩ := ho
  exact ⟨_, pe_cmp (pc_gin hu pa pb) hm, bin_go ops_gin ga gb⟩
theorem vt_gnotin (hu : X.A.units + 1 < cLine) (hi : VE X i ty κ1) (ho : VE X o td κ2) (hm : behindInMarks .NotIn o = false) : VT X (.Compare i [.NotIn] [o] pos) (vTest (vBin (fGIn true) ty td)) (κ1 + κ2) := by
  obtain ⟨tea, pa, ga⟩ := hi
  obtain ⟨teb, pb, gb⟩ := ho
  refine ⟨_, pt_cmp (pc_gnotin hu pa pb) hm, fun B F H σ ρ Q R er bq t k => ?_⟩
  refine bin_go ops_gnotin ga gb B F H σ ρ _ (fun x H1 => ∃ d, x = .bl d ∧ R d H1) er (by omega) t fun s u F' H' cq ⟨c, e, q⟩ r => ?_
  subst e
  exact ⟨c, bool_of r.sr, k c F' H' (by omega) q r.toExt⟩
theorem ve_gnotin (hu : X.A.units + 1 < cLine) (hi : VE X i ty κ1) (ho : VE X o td κ2) (hm : behindInMarks .NotIn o = false) : VE X (.Compare i [.NotIn] [o] pos) (vBin (fGIn true) ty td) (κ1 + κ2) := by
  obtain ⟨tea, pa, ga⟩ := hi
  obtain ⟨teb, pb, gb⟩ := ho
  exact ⟨_, pe_cmp (pc_gnotin hu pa pb) hm, bin_go ops_gnotin ga gb⟩
theorem ve_get1 (hu : X.A.units + 1 < cLine) (ho : VE X o td κ1) (hi : VE X e ty κ2) (m : M1 X o "get" apos e cpos) : VE X (.Call (.Attribute o "get" apos) [e] [] cpos) (vGet1 td ty) (κ1 + κ2) := by
  obtain ⟨tea, pa, ga⟩ := ho
  obtain ⟨teb, pb, gb⟩ := hi
  refine ⟨_, pe_gget1 hu pa pb m, fun B F H σ ρ Q R er bq t k => ?_⟩
  refine ga B F H σ ρ _ _ er (by omega) t fun a u F1 H1 c1 ⟨di, q1⟩ r1 => ?_
  obtain ⟨p, rfl, dd⟩ := isD_of r1.sr di
  refine ⟨p, rfl, dd, ?_⟩
  refine gb B F1 H1 σ ρ _ _ (er.step r1.toExt) (by omega) q1 fun b w F2 H2 c2 q2 r2 => ?_
  have ra := r1.sr.keep r1.fo er.refl.cp r2.toExt
  obtain ⟨p', ov, e, g, z⟩ := lk_core ra r2.sr q2
  cases e
  refine ⟨ov, g, ?_⟩
  rcases z with ⟨rfl, q⟩ | ⟨v, d, rfl, r, q⟩
  · exact k _ _ F2 H2 (by omega) q ⟨r1.toExt.trans r2.toExt, .non, trivial⟩
  · exact k _ _ F2 H2 (by omega) q ⟨r1.toExt.trans r2.toExt, r, trivial⟩
theorem ve_get2 (hu : X.A.units + 1 < cLine) (ho : VE X o td κ1) (hi : VE X e ty κ2) (hx : VE X f tx κ3) (m : M2 X o "get" apos e f cpos) : VE X (.Call (.Attribute o "get" apos) [e, f] [] cpos) (vGet2 td ty tx) (κ1 + κ2 + κ3) := by
  obtain ⟨tea, pa, ga⟩ := ho
  obtain ⟨teb, pb, gb⟩ := hi
  obtain ⟨tec, pc, gc⟩ := hx
  refine ⟨_, pe_gget2 hu pa pb pc m, fun B F H σ ρ Q R er bq t k => ?_⟩
  refine ga B F H σ ρ _ _ er (by omega) t fun a u F1 H1 c1 ⟨di, q1⟩ r1 => ?_
  obtain ⟨p, rfl, dd⟩ := isD_of r1.sr di
  refine ⟨p, rfl, dd, ?_⟩
  refine gb B F1 H1 σ ρ _ _ (er.step r1.toExt) (by omega) q1 fun b w F2 H2 c2 q2 r2 => ?_
  have x12 := r1.toExt.trans r2.toExt
  refine gc B F2 H2 σ ρ _ _ (er.step x12) (by omega) q2 fun z v0 F3 H3 c3 ⟨d0, e0, q3⟩ r3 => ?_
  subst e0
  have ra := r1.sr.keep r1.fo er.refl.cp (r2.toExt.trans r3.toExt)
  have rb := r2.sr.keep (r2.fo.back r1.toExt) er.refl.cp r3.toExt
  obtain ⟨p', ov, e, g, z⟩ := lk_core ra rb q3
  cases e
  refine ⟨ov, g, ?_⟩
  rcases z with ⟨rfl, q⟩ | ⟨v, d, rfl, r, q⟩
  · exact k _ _ F3 H3 (by omega) q ⟨x12.trans r3.toExt, r3.sr, trivial⟩
  · exact k _ _ F3 H3 (by omega) q ⟨x12.trans r3.toExt, r, trivial⟩
end
end VL
namespace VL
open PySem PySem.Spec PyProof.Rows L2 VG

section
variable {K : PySem.W.Frag} {B : Bas} {F F' : FS} {H H' : Hp} {σ : Hs} {ρ : VL.Env} {s : SV} {u : V}
theorem PRes.newC {c : CT} {p : Addr} {us : List V} {ds : List PyData} (d : FOk F H) (hp : H p = none) (r : RA K F H us ds) : PRes K F H F (upd H p (c.ho us)) (.ow c ds) (.ref p) := by
  refine ⟨Nat.le_refl _, Stp.new hp, d.new hp, ⟨p, us, rfl, upd_same, fun z => ?_, Rp.mono (Stp.new (M := fun _ => False) (F := F) hp).toFM r⟩, fun q e => ?_⟩
  · obtain ⟨xs, e, _⟩ := d p z
    rw [hp] at e; cases e
  · cases e; exact hp
/-- a slot is filled; a container that is put into it is no other slot's -/
theorem ER.put (er : ER K B F H σ ρ) (r : SlotR K F H u s) (nb : NoBrw s) (nc : ∀ a ns, s ≠ .cell a ns)
    (new : ∀ c ds p, s = .ow c ds → u = .ref p → B.H0 p = none ∧ ¬ cellsOf ρ p ∧ ∀ (j : Nat) c' ds', ρ[j]? = some (.ow c' ds') → σ[j]? ≠ some (some (.ref p))) (i : Nat) : ER K B F H (σ.set i (some u)) (ρ.set i s) := by
  have hlen := er.len
  have at_ : ∀ {j : Nat} {t : SV}, (ρ.set i s)[j]? = some t → (j = i ∧ t = s ∧ i < ρ.length) ∨ (j ≠ i ∧ ρ[j]? = some t) := fun {j t} h => by
    by_cases z : j = i
    · subst z
      refine .inl ⟨rfl, getElem?_set_eq h, ?_⟩
      have := (List.getElem?_eq_some_iff.mp h).1
      simpa using this
    · rw [List.getElem?_set_ne (Ne.symm z)] at h
      exact .inr ⟨z, h⟩
  have at2 : ∀ {j : Nat}, j ≠ i → (σ.set i (some u))[j]? = σ[j]? := fun {j} z => List.getElem?_set_ne (Ne.symm z)
  have at1 : i < ρ.length → (σ.set i (some u))[i]? = some (some u) := fun z => List.getElem?_set_self (by omega)
  have cells : ∀ {a : Addr}, cellsOf (ρ.set i s) a → cellsOf ρ a := fun {a} c => (cells_set c).elim id fun ⟨ns, e⟩ => absurd e (nc _ _)
  refine ⟨by simp [hlen], fun j t h hn => ?_, fun j c ds h => ?_, fun j k c c' ds es p h1 h2 h3 h4 => ?_, fun j c ds p h1 h2 => ?_, fun a c => er.cf a (cells c), er.bs, er.kb, er.pin, er.dm⟩
  · rcases at_ h with ⟨rfl, rfl, z⟩ | ⟨z, q⟩
    · exact ⟨u, at1 z, r⟩
    · obtain ⟨w, q1, q2⟩ := er.sl j t q hn
      exact ⟨w, (at2 z).trans q1, q2⟩
  · rcases at_ h with ⟨_, q, _⟩ | ⟨z, q⟩
    · exact nb c ds q.symm
    · exact er.nb j c ds q
  · rcases at_ h1 with ⟨rfl, q1, z1⟩ | ⟨z1, q1⟩ <;> rcases at_ h2 with ⟨rfl, q2, z2⟩ | ⟨z2, q2⟩
    · rfl
    · rw [at1 z1] at h3
      rw [at2 z2] at h4
      injection h3 with h3; injection h3 with h3
      exact absurd h4 ((new c ds p q1.symm h3).2.2 k _ _ q2)
    · rw [at1 z2] at h4
      rw [at2 z1] at h3
      injection h4 with h4; injection h4 with h4
      exact absurd h3 ((new c' es p q2.symm h4).2.2 j _ _ q1)
    · rw [at2 z1] at h3
      rw [at2 z2] at h4
      exact er.ow j k c c' ds es p q1 q2 h3 h4
  · rcases at_ h1 with ⟨rfl, q1, z1⟩ | ⟨z1, q1⟩
    · rw [at1 z1] at h2
      injection h2 with h2; injection h2 with h2
      obtain ⟨n1, n2, _⟩ := new c ds p q1.symm h2
      exact ⟨n1, fun z => n2 (cells z)⟩
    · rw [at2 z1] at h2
      obtain ⟨f1, f2⟩ := er.fr j c ds p q1 h2
      exact ⟨f1, fun z => f2 (cells z)⟩
end

/-! ### several names at once -/
/-- new containers among the results stand apart -/
def OwnD : List V → List SV → Prop
  | u :: us, s :: ss => (∀ c ds p, s = .ow c ds → u = .ref p → ¬ ownsIn us ss p) ∧ OwnD us ss
  | _, _ => True
def VD (X : Cx) (es : List Expr) (t : TVs) (κ : Nat) : Prop := ∃ ta, PA X es ta ∧
  ∀ B F H σ ρ (Q : List SV → Prop) (R : List V → Hp → Prop), ER X.K B F H σ ρ → F.ck + κ ≤ LIM → t ρ Q →
    (∀ ss us (F' : FS) H', F'.ck ≤ F.ck + κ → Q ss → Ext ρ F H F' H' → AllR X.K ρ F' H' H us ss → OwnD us ss → R us H') → ta σ H R
/-- can be put into a slot as it is -/
def SV.kp : SV → Bool
  | .un => false
  | .bw _ _ => false
  | .cell _ _ => false
  | _ => true
def keeps : List SV → Bool
  | [] => true
  | s :: ss => s.kp && keeps ss
def setAll (ρ : VL.Env) : List Nat → List SV → VL.Env
  | i :: is, s :: ss => setAll (ρ.set i s) is ss
  | _, _ => ρ
def setV (σ : Hs) : List Nat → List V → Hs
  | i :: is, u :: us => setV (σ.set i (some u)) is us
  | _, _ => σ
def vParN (is : List Nat) (t : TVs) : TVS := fun E ρ => t ρ fun ss => keeps ss = true ∧ ss.length = is.length ∧ ss.length ≤ 1000 ∧ E.nx (setAll ρ is ss)
section
variable {X : Cx} {K : PySem.W.Frag} {B : Bas} {F F' : FS} {H H' : Hp}
theorem vd_nil : VD X [] vNil 0 := ⟨_, pa_nil, fun B F H σ ρ Q R er bq t k => k [] [] F H (by omega) t er.refl trivial trivial⟩
theorem vd_cons {κ1 κ2 : Nat} {e : Expr} {es : List Expr} {t : TV} {r : TVs} (h : VE X e t κ1) (hr : VD X es r κ2) (hs : starEach (e :: es) X.env = (false, eval e X.env) :: starEach es X.env) : VD X (e :: es) (vCons t r) (κ1 + κ2) := by
  obtain ⟨te, pe, g⟩ := h
  obtain ⟨ta, pa, ga⟩ := hr
  refine ⟨_, pa_cons pe pa hs, fun B F H σ ρ Q R er bq t k => ?_⟩
  refine g B F H σ ρ _ _ er (by omega) t fun s u F1 H1 cq q1 r1 => ?_
  refine ga B F1 H1 σ ρ _ _ (er.step r1.toExt) (by omega) q1 fun ss us F2 H2 cq q2 x2 a2 d2 => ?_
  refine k (s :: ss) (u :: us) F2 H2 (by omega) q2 (r1.toExt.trans x2) ⟨r1.sr.keep r1.fo er.refl.cp x2, r1.fo, a2.back r1.toExt⟩ ⟨fun c ds p e1 e2 z => ?_, d2⟩
  subst e1 e2
  obtain ⟨p', ws, e3, q3, _⟩ := r1.sr
  cases e3
  have := (AllR.owns a2 _ z).1
  rw [this] at q3; cases q3
/-- what is still to be put into slots -/
def Pend (K : PySem.W.Frag) (B : Bas) (F : FS) (H : Hp) (σ : Hs) (ρ : VL.Env) : List V → List SV → Prop
  | u :: us, s :: ss => (SlotR K F H u s ∧ ∀ c ds p, s = .ow c ds → u = .ref p → B.H0 p = none ∧ ¬ cellsOf ρ p ∧ ∀ (j : Nat) c' ds', ρ[j]? = some (.ow c' ds') → σ[j]? ≠ some (some (.ref p))) ∧ Pend K B F H σ ρ us ss
  | [], [] => True
  | _, _ => False
theorem Pend.len {σ : Hs} {ρ : VL.Env} : ∀ {us : List V} {ss : List SV}, Pend K B F H σ ρ us ss → us.length = ss.length
  | [], [], _ => rfl
  | _ :: _, _ :: _, ⟨_, h⟩ => congrArg Nat.succ (Pend.len h)
  | [], _ :: _, h => h.elim
  | _ :: _, [], h => h.elim
theorem par_go : ∀ (is : List Nat) (us : List V) (ss : List SV) (σ : Hs) (ρ : VL.Env), ER K B F H σ ρ → Pend K B F H σ ρ us ss → OwnD us ss → keeps ss = true → ER K B F H (setV σ is us) (setAll ρ is ss)
  | [], us, ss, σ, ρ, er, _, _, _ => by cases us <;> cases ss <;> exact er
  | _ :: _, [], [], σ, ρ, er, _, _, _ => er
  | _ :: _, [], _ :: _, _, _, _, pd, _, _ => pd.elim
  | _ :: _, _ :: _, [], _, _, _, pd, _, _ => pd.elim
  | i :: is, u :: us, s :: ss, σ, ρ, er, ⟨⟨r, nw⟩, pd⟩, ⟨d1, od⟩, hk => by
    simp only [keeps, Bool.and_eq_true] at hk
    have nc : ∀ a ns, s ≠ .cell a ns := fun a ns z => by subst z; cases hk.1
    have nb : NoBrw s := fun c ds z => by subst z; cases hk.1
    have er1 := er.put r nb nc nw i
    have pd1 : ∀ (us : List V) (ss : List SV), Pend K B F H σ ρ us ss → (∀ c ds p, s = .ow c ds → u = .ref p → ¬ ownsIn us ss p) → Pend K B F H (σ.set i (some u)) (ρ.set i s) us ss := by
      intro us
      induction us with
      | nil => intro ss h _; cases ss with | nil => trivial | cons _ _ => exact h.elim
      | cons w us ih2 =>
        intro ss h hn
        cases ss with
        | nil => exact h.elim
        | cons t ss =>
          obtain ⟨⟨r2, n2⟩, h2⟩ := h
          refine ⟨⟨r2, fun c ds p q1 q2 => ?_⟩, ih2 ss h2 fun c ds p q1 q2 z => hn c ds p q1 q2 (ownsIn_sub z)⟩
          obtain ⟨a1, a2, a3⟩ := n2 c ds p q1 q2
          refine ⟨a1, fun z => a2 ((cells_set z).elim id fun ⟨ns, e⟩ => absurd e (nc _ _)), fun j c' ds' q3 q4 => ?_⟩
          by_cases hj : j = i
          · subst hj
            have e3 := getElem?_set_eq q3
            have hi : j < ρ.length := by have := (List.getElem?_eq_some_iff.mp q3).1; simpa using this
            rw [List.getElem?_set_self (by rw [er.len]; exact hi)] at q4
            injection q4 with q4; injection q4 with q4
            refine hn c' ds' p e3.symm q4 ?_
            subst q1 q2
            exact .inl rfl
          · rw [List.getElem?_set_ne (Ne.symm hj)] at q3 q4
            exact a3 j c' ds' q3 q4
    exact par_go is us ss _ _ er1 (pd1 us ss pd d1) od hk.2
theorem pend_of {ρ : VL.Env} {σ : Hs} (er : ER K B F' H' σ ρ) (old : ∀ p, H p = none → B.H0 p = none) (er0 : ER K B F H σ ρ) (cp : ∀ a, cellsOf ρ a → H a ≠ none) :
    ∀ {us : List V} {ss : List SV}, AllR K ρ F' H' H us ss → Pend K B F' H' σ ρ us ss
  | [], [], _ => trivial
  | [], _ :: _, h => h.elim
  | _ :: _, [], h => h.elim
  | u :: us, s :: ss, ⟨r, fo, h⟩ => by
    refine ⟨⟨r, fun c ds p e1 e2 => ?_⟩, pend_of er old er0 cp h⟩
    subst e1 e2
    have hp : H p = none := fo p rfl
    refine ⟨old p hp, fun z => cp p z hp, fun j c' ds' q1 q2 => ?_⟩
    obtain ⟨w, q3, p', ws, q4, q5, _⟩ := er0.sl j _ q1 (fun z => nomatch z)
    rw [q3] at q2
    injection q2 with q2; injection q2 with q2
    subst q2
    cases q4
    rw [hp] at q5; cases q5
/-- names as targets, one behind the other -/
def gNames : List Nat → TGs
  | [] => fun xs σ H Q => xs = [] ∧ Q σ H
  | i :: is => fun xs σ H Q => ∃ x r, xs = x :: r ∧ gNames is r (σ.set i (some x)) H Q
theorem gn_go {H : Hp} {Q : Hs → Hp → Prop} : ∀ (is : List Nat) (us : List V) (σ : Hs), us.length = is.length → Q (setV σ is us) H → gNames is us σ H Q
  | [], [], _, _, h => ⟨rfl, h⟩
  | [], _ :: _, _, e, _ => by cases e
  | _ :: _, [], _, e, _ => by cases e
  | i :: is, u :: us, σ, e, h => ⟨u, us, rfl, gn_go is us _ (by simpa using e) h⟩
theorem vs_parN {κ : Nat} {is : List Nat} {st : Stmt} {es : List Expr} {t : TVs} (h : ∀ ta, PA X es ta → PS X st (tAsg (tTup ta) (gTup X.K is.length (gNames is)))) (ha : VD X es t κ) : VS X st (vParN is t) κ := by
  obtain ⟨ta, pa, g⟩ := ha
  refine ⟨_, h ta pa, fun B F H σ ρ E D er bq t k => ?_⟩
  refine g B F H σ ρ _ _ er (by omega) t fun ss us F' H' cq ⟨kp, hl, hz, q⟩ x al od => ?_
  have lu := al.len
  refine ⟨small (by omega), fun p hp => ⟨p, us, rfl, SqT.of upd_same, by omega, ?_⟩⟩
  have er' := er.step x
  have old : ∀ q, H q = none → B.H0 q = none := fun q z => by
    by_cases w : B.H0 q = none
    · exact w
    · exact absurd z (er.bs.ex q w)
  have st : Stp (fun _ => False) F' F' H' (upd H' p (.tup us)) := Stp.new hp
  have x2 : Ext ρ F H F' (upd H' p (.tup us)) := x.pure st (x.dm.new hp)
  have al2 := al.keep er.refl.cp (⟨st.more fun _ z => z.elim, x2.dm, x2.cl, fun a ⟨i, ns, e⟩ => (er'.cell e).there⟩ : Ext ρ F' H' F' (upd H' p (.tup us)))
  have er2 := er.step x2
  exact gn_go is us σ (by omega) (k.nx F' _ _ _ (by omega) (par_go is us ss σ ρ er2 (pend_of er2 old er er.refl.cp al2) od kp) q)
theorem vs_par2 {κ : Nat} {i j : Nat} {st : Stmt} {es : List Expr} {t : TVs} (h : ∀ ta, PA X es ta → PS X st (tPar i j ta)) (ha : VD X es t κ) : VS X st (vParN [i, j] t) κ := by
  obtain ⟨ta, pa, g⟩ := ha
  refine ⟨_, h ta pa, fun B F H σ ρ E D er bq t k => ?_⟩
  refine g B F H σ ρ _ _ er (by omega) t fun ss us F' H' cq ⟨kp, hl, hz, q⟩ x al od => ?_
  have lu := al.len
  have er' := er.step x
  have old : ∀ q, H q = none → B.H0 q = none := fun q z => by
    by_cases w : B.H0 q = none
    · exact w
    · exact absurd z (er.bs.ex q w)
  have hl : ss.length = 2 := hl
  obtain ⟨s, z, rfl⟩ : ∃ s z, ss = [s, z] := by
    cases ss with
    | nil => cases hl
    | cons s ss =>
      cases ss with
      | nil => cases hl
      | cons z ss =>
        cases ss with
        | nil => exact ⟨s, z, rfl⟩
        | cons _ _ => cases hl
  obtain ⟨u, w, rfl⟩ : ∃ s z, us = [s, z] := by
    cases us with
    | nil => cases lu
    | cons s us =>
      cases us with
      | nil => cases lu
      | cons z us =>
        cases us with
        | nil => exact ⟨s, z, rfl⟩
        | cons _ _ => cases lu
  exact ⟨u, w, rfl, k.nx F' H' _ _ (by omega) (par_go [i, j] [u, w] [s, z] σ ρ er' (pend_of er' old er er.refl.cp al) od kp) q⟩
end
end VL
namespace VL
open PySem PySem.Spec PyProof.Rows L2 VG

def vDNewK : TV := fun _ Q => Q (odK [])
def vDNewT : TV := fun _ Q => Q (odT [])
section
variable {X : Cx} {pos : Pos} {st : Stmt} {i : Nat} {κ1 κ2 : Nat}
theorem ve_dnewK : VE X (.Dict [] [] pos) vDNewK 0 := ⟨_, pe_dnewK, fun B F H σ ρ Q R er bq t k p hp =>
  k _ _ F _ (by omega) t ((PRes.newC (c := .K []) (us := []) (ds := []) er.dm hp .nil).res er.refl fun _ _ z => nomatch z)⟩
theorem ve_dnewT : VE X (.Dict [] [] pos) vDNewT 0 := ⟨_, pe_dnewT, fun B F H σ ρ Q R er bq t k p hp =>
  k _ _ F _ (by omega) t ((PRes.newC (c := .T []) (us := []) (ds := []) er.dm hp .nil).res er.refl fun _ _ z => nomatch z)⟩
/-- d[k] = v, the key an int or a text -/
def vPutK (i : Nat) (tk tv : TV) : TVS := fun E ρ => ∃ kvs, ρ[i]? = some (odK kvs) ∧ tv ρ fun z => ∃ dv, datasIn [z] = some [dv] ∧ tk ρ fun s => ∃ d k, s = .v d ∧ keyOf d = some k ∧ kvs.length < 100000 ∧ E.nx (ρ.set i (odK (gPut kvs k dv)))
/-- d[a, ..] = v -/
def vPutT (i : Nat) (tk : TVs) (tv : TV) : TVS := fun E ρ => ∃ kvs, ρ[i]? = some (odT kvs) ∧ tv ρ fun z => ∃ dv, datasIn [z] = some [dv] ∧ tk ρ fun ss => ∃ k, datasIn ss = some (k.map kD) ∧ k.length ≤ 100000 ∧ kvs.length < 100000 ∧ E.nx (ρ.set i (odT (gPut kvs k dv)))
theorem own_dk {B : Bas} {F : FS} {H : Hp} {σ : Hs} {ρ : VL.Env} {K : PySem.W.Frag} (er : ER K B F H σ ρ) {kvs : List (L2.Key × PyData)} (h : ρ[i]? = some (odK kvs)) :
    ∃ p us, σ[i]? = some (some (.ref p)) ∧ H p = some (.dK us) ∧ ¬ F p ∧ us.map (·.1) = kvs.map (·.1) ∧ RA K F H (us.map (·.2)) (kvs.map (·.2)) := by
  obtain ⟨p, us, h1, h2, nf, r⟩ := er.own h
  obtain ⟨z1, z2⟩ := zip_of r
  exact ⟨p, _, h1, h2, nf, z1, by rw [z2]; exact r⟩
theorem own_dt {B : Bas} {F : FS} {H : Hp} {σ : Hs} {ρ : VL.Env} {K : PySem.W.Frag} (er : ER K B F H σ ρ) {kvs : List (List L2.Key × PyData)} (h : ρ[i]? = some (odT kvs)) :
    ∃ p us, σ[i]? = some (some (.ref p)) ∧ H p = some (.dT us) ∧ ¬ F p ∧ us.map (·.1) = kvs.map (·.1) ∧ RA K F H (us.map (·.2)) (kvs.map (·.2)) := by
  obtain ⟨p, us, h1, h2, nf, r⟩ := er.own h
  obtain ⟨z1, z2⟩ := zip_of r
  exact ⟨p, _, h1, h2, nf, z1, by rw [z2]; exact r⟩
theorem ER.writeK {B : Bas} {F : FS} {H : Hp} {σ : Hs} {ρ : VL.Env} {K : PySem.W.Frag} (er : ER K B F H σ ρ) {kvs kvs' : List (L2.Key × PyData)} {p : Addr} {us vs : List (L2.Key × V)} (h : ρ[i]? = some (odK kvs)) (h1 : σ[i]? = some (some (.ref p)))
    (h2 : H p = some (.dK us)) (nf : ¬ F p) (e0 : us.map (·.1) = kvs.map (·.1)) (e : vs.map (·.1) = kvs'.map (·.1)) (r : RA K F H (vs.map (·.2)) (kvs'.map (·.2))) : ER K B F (upd H p (.dK vs)) σ (ρ.set i (odK kvs')) := by
  have e1 : (CT.K (kvs'.map (·.1))).ho (vs.map (·.2)) = .dK vs := by show HO.dK _ = _; rw [← e, zipV_back rfl rfl]
  have e2 : (CT.K (kvs.map (·.1))).ho (us.map (·.2)) = .dK us := by show HO.dK _ = _; rw [← e0, zipV_back rfl rfl]
  have := er.write (c1 := .K (kvs'.map (·.1))) (us := us.map (·.2)) h h1 (by rw [e2]; exact h2) nf r
  rwa [e1] at this
theorem ER.writeT {B : Bas} {F : FS} {H : Hp} {σ : Hs} {ρ : VL.Env} {K : PySem.W.Frag} (er : ER K B F H σ ρ) {kvs kvs' : List (List L2.Key × PyData)} {p : Addr} {us vs : List (List L2.Key × V)} (h : ρ[i]? = some (odT kvs)) (h1 : σ[i]? = some (some (.ref p)))
    (h2 : H p = some (.dT us)) (nf : ¬ F p) (e0 : us.map (·.1) = kvs.map (·.1)) (e : vs.map (·.1) = kvs'.map (·.1)) (r : RA K F H (vs.map (·.2)) (kvs'.map (·.2))) : ER K B F (upd H p (.dT vs)) σ (ρ.set i (odT kvs')) := by
  have e1 : (CT.T (kvs'.map (·.1))).ho (vs.map (·.2)) = .dT vs := by show HO.dT _ = _; rw [← e, zipV_back rfl rfl]
  have e2 : (CT.T (kvs.map (·.1))).ho (us.map (·.2)) = .dT us := by show HO.dT _ = _; rw [← e0, zipV_back rfl rfl]
  have := er.write (c1 := .T (kvs'.map (·.1))) (us := us.map (·.2)) h h1 (by rw [e2]; exact h2) nf r
  rwa [e1] at this
theorem len_of {κ : Type} {us : List (κ × V)} {kvs : List (κ × PyData)} (e : us.map (·.1) = kvs.map (·.1)) : us.length = kvs.length := by
  have := congrArg List.length e
  simpa using this
theorem vs_putK {tk tv : TV} {ek ev : Expr} (h : ∀ ty tw, PE X ek ty → PE X ev tw → PS X st (sDPut (tVar i) ty tw)) (hk : VE X ek tk κ1) (hv : VE X ev tv κ2) : VS X st (vPutK i tk tv) (κ2 + κ1) := by
  obtain ⟨tke, pk, gk⟩ := hk
  obtain ⟨tve, pv, gv⟩ := hv
  refine ⟨_, h tke tve pk pv, fun B F H σ ρ E D er bq ⟨kvs, e0, t⟩ kk => ?_⟩
  refine gv B F H σ ρ _ _ er (by omega) t fun z u F1 H1 c1 ⟨dv, e1, q1⟩ x => ?_
  obtain ⟨F2, ce, x2, r⟩ := data_all (us := [u]) (ss := [z]) x.toExt ⟨x.sr, x.fo, trivial⟩ e1
  have er2 := er.step x2
  obtain ⟨p, us, h1, _⟩ := own_dk er2 e0
  refine ⟨.ref p, h1, ?_⟩
  refine gk B F2 H1 σ ρ _ _ er2 (by omega) q1 fun s w F3 H3 c3 ⟨d, k, e3, ek, hl, q⟩ x3 => ?_
  subst e3
  have er3 := er2.step x3.toExt
  obtain ⟨p', us', h1', h2', nf, em, ra⟩ := own_dk er3 e0
  rw [h1] at h1'
  injection h1' with h1'; injection h1' with h1'; injection h1' with h1'
  subst h1'
  have ew := key_of x3.sr ek
  subst ew
  have lu := len_of em
  have zl : sizeLine = 16777216 := rfl
  obtain ⟨g1, g2⟩ := g_put (k := k) em ra (Rp.mono x3.st.toFM (RA.uncons r).1)
  exact ⟨p, _, rfl, DPut.k h2' (by omega), kk.nx F3 _ _ _ (by omega) (er3.writeK e0 h1 h2' nf em g1 g2) q⟩
theorem vs_putT {tk : TVs} {tv : TV} {es : List Expr} {ek ev : Expr} (h : ∀ ty tw, PE X ek ty → PE X ev tw → PS X st (sDPut (tVar i) ty tw)) (ht : ∀ ta, PA X es ta → PE X ek (tTup ta)) (hk : VA X es tk κ1) (hv : VE X ev tv κ2) : VS X st (vPutT i tk tv) (κ2 + κ1) := by
  obtain ⟨tke, pk, gk⟩ := hk
  obtain ⟨tve, pv, gv⟩ := hv
  refine ⟨_, h _ tve (ht tke pk) pv, fun B F H σ ρ E D er bq ⟨kvs, e0, t⟩ kk => ?_⟩
  refine gv B F H σ ρ _ _ er (by omega) t fun z u F1 H1 c1 ⟨dv, e1, q1⟩ x => ?_
  obtain ⟨F2, ce, x2, r⟩ := data_all (us := [u]) (ss := [z]) x.toExt ⟨x.sr, x.fo, trivial⟩ e1
  have er2 := er.step x2
  obtain ⟨p, us, h1, _⟩ := own_dt er2 e0
  refine ⟨.ref p, h1, ?_⟩
  refine gk B F2 H1 σ ρ _ _ er2 (by omega) q1 fun ss ws F3 H3 c3 ⟨k, ek, hz, hl, q⟩ x3 al => ?_
  obtain ⟨F4, ce4, x4, rk⟩ := data_all x3 al ek
  have ew := ra_keys rk
  subst ew
  refine ⟨small (by rw [List.length_map]; exact hz), fun b hb => ?_⟩
  have st : Stp (fun _ => False) F4 F4 H3 (upd H3 b (.tup (k.map kV))) := Stp.new hb
  have x5 := x4.pure st (x4.dm.new hb)
  have er5 := er2.step x5
  obtain ⟨p', us', h1', h2', nf, em, ra⟩ := own_dt er5 e0
  rw [h1] at h1'
  injection h1' with h1'; injection h1' with h1'; injection h1' with h1'
  subst h1'
  have lu := len_of em
  have zl : sizeLine = 16777216 := rfl
  obtain ⟨g1, g2⟩ := g_put (k := k) em ra (Rp.mono x5.st.toFM (RA.uncons r).1)
  exact ⟨p, _, rfl, DPut.t (k := k) h2' upd_same (by omega), kk.nx F4 _ _ _ (by omega) (er5.writeT e0 h1 h2' nf em g1 g2) q⟩
end

/-! ### x += e, x -= e -/
def vAug (i : Nat) (f : Int → Int → Int) (t : TV) : TVS := fun E ρ => ∃ a, ρ[i]? = some (.v (.int a)) ∧ t ρ fun s => isI s fun b => E.nx (ρ.set i (.v (.int (f a b))))
theorem vs_aug {X : Cx} {i κ : Nat} {st : Stmt} {e : Expr} {t : TV} {f : Int → Int → Int} (h : ∀ te, PE X e te → PS X st (tAug i te (ipI f))) (he : VE X e t κ) : VS X st (vAug i f t) κ := by
  obtain ⟨te, pe, g⟩ := he
  refine ⟨_, h te pe, fun B F H σ ρ E D er bq ⟨a, e0, q⟩ k => ?_⟩
  obtain ⟨u, h1, h2⟩ := er.sl i _ e0 (fun z => nomatch z)
  have e1 := int_of h2
  subst e1
  refine ⟨_, h1, ?_⟩
  refine g B F H σ ρ _ _ er (by omega) q fun s w F1 H1 c1 ⟨b, e2, q1⟩ x => ?_
  subst e2
  have ew := int_of x.sr
  subst ew
  exact ⟨a, b, rfl, rfl, k.nx F1 H1 _ _ (by omega) (er.set (s := .v (.int (f a b))) ⟨x.toExt, .int _, trivial⟩ (fun _ _ z => nomatch z) i) q1⟩

/-! ### x is True -/
def fIsB (neg : Bool) : FB := fun a b Q => ∃ x y, a = .v (.bool x) ∧ b = .v (.bool y) ∧ Q (.v (.bool (if neg then !(x == y) else (x == y))))
theorem dec_beq (x y : Bool) : decide (x = y) = (x == y) := by cases x <;> cases y <;> rfl
theorem ops_isB {K : PySem.W.Frag} : OpS K (fun x y H Q => ∃ a b : Bool, x = .bl a ∧ y = .bl b ∧ Q (.bl (decide (a = b))) H) (fIsB false) := by
  intro F H u w a b Q R fo ra rb ⟨x, y, e1, e2, q⟩ k
  subst e1 e2
  refine ⟨x, y, bool_of ra, bool_of rb, ?_⟩
  rw [dec_beq]
  exact k _ _ F H q (fun _ _ z => nomatch z) (.same fo (.bl _))
theorem ops_notB {K : PySem.W.Frag} : OpS K (fun x y H Q => ∃ a b : Bool, x = .bl a ∧ y = .bl b ∧ Q (.bl (!decide (a = b))) H) (fIsB true) := by
  intro F H u w a b Q R fo ra rb ⟨x, y, e1, e2, q⟩ k
  subst e1 e2
  refine ⟨x, y, bool_of ra, bool_of rb, ?_⟩
  rw [dec_beq]
  exact k _ _ F H q (fun _ _ z => nomatch z) (.same fo (.bl _))

/-! ### isinstance(x, (list, tuple)) -/
theorem Sh.keep {K : PySem.W.Frag} {F F' : FS} {H H' : Hp} {u : V} {d : PyData} (h : Sh K H u d) (st : Stp (fun _ => False) F F' H H') : Sh K H' u d := by
  have kp : ∀ a o, H a = some o → H' a = some o := fun a o e => st.kp a o e id
  cases h with
  | non => exact .non
  | bl b => exact .bl b
  | int i => exact .int i
  | str x => exact .str x
  | lst q =>
    rename_i a xs ds
    refine .lst (xs := xs) ?_
    rcases q with (q | ⟨o, q⟩) | q
    · exact .inl (.inl (kp _ _ q))
    · exact .inl (.inr ⟨o, kp _ _ q⟩)
    · exact .inr q
  | tup q => exact .tup (st.toFM.sqt q)
  | dic q => exact .dic (kp _ _ q)
def vIsi2 (S T : String) (t : TV) : TV := fun ρ Q => t ρ fun s => ∃ d, s.asD = some d ∧ Q (.v (.bool (isT S d || isT T d)))
theorem ve_isi2 {X : Cx} {κ1 : Nat} {e f : Expr} {t : TV} {S T : String} (h : ∀ te, PE X e te → PE X f (tCB (rIsiT X.K) (tCons te (tCons (tTup (tCons (tC (.ty S)) (tCons (tC (.ty T)) tNil))) tNil)))) (hS : TyOk S) (hT : TyOk T) (hcS : ClsV (.ty S) (.type S)) (hcT : ClsV (.ty T) (.type T))
    (hk : ∀ n ∈ ["NoneType", "bool", "int", "str", "list", "tuple", "dict"], ∀ K, PySem.W.kitAny K (.type n) [.type S, .type T] = some ((n == S || (n == "bool" && S == "int")) || (n == T || (n == "bool" && T == "int")))) (he : VE X e t κ1) : VE X f (vIsi2 S T t) κ1 := by
  obtain ⟨te, pe, g⟩ := he
  refine ⟨_, h te pe, fun B F H σ ρ Q R er bq t k => ?_⟩
  refine g B F H σ ρ _ _ er (by omega) t fun s u F' H' cq ⟨d, e1, q⟩ x => ?_
  have sh := asD_sh x.sr e1
  refine ⟨by show 2 ≤ sizeLine; decide, fun p hp => ?_⟩
  have hty : TyX X.K (upd H' p (.tup [.ty S, .ty T])) u (.type (tyName d)) := by
    refine ty_of (d := d) ?_
    have st : Stp (fun _ => False) F' F' H' (upd H' p (.tup [V.ty S, V.ty T])) := Stp.new hp
    exact sh.keep st
  have hm : tyName d ∈ ["NoneType", "bool", "int", "str", "list", "tuple", "dict"] := by cases d <;> simp [tyName]
  refine ⟨u, p, [.ty S, .ty T], .type (tyName d), [.type S, .type T], isT S d || isT T d, rfl, upd_same, .cons hcS (.cons hcT .nil), hty, hk _ hm X.K, ?_⟩
  have st : Stp (fun _ => False) F' F' H' (upd H' p (.tup [V.ty S, V.ty T])) := Stp.new hp
  exact k _ _ F' _ (by omega) q ⟨x.toExt.pure st (x.dm.new hp), .bl _, trivial⟩
end VL
namespace VL
open PySem PySem.Spec PyProof.Rows L2 VG

section
set_option maxHeartbeats 1000000 in
theorem en_meets (l : Addr) (items : Array Value) : Meets (Builtin.«enumerate.__new__» ⟨[.type "enumerate", .ref l], []⟩) (fun _ R s => s.heap.IsTuple l items ∧
    R (.ok (.ret (.ref (s.heap.push { cls := .type "tuple_iterator", data := .fields #[.ref l, .int 0 0] }).objs.size)))
      { s with heap := (s.heap.push { cls := .type "tuple_iterator", data := .fields #[.ref l, .int 0 0] }).push { cls := .type "enumerate", data := .fields #[.none, .bool false, .ref s.heap.objs.size, rawInt 0, .none, .none] } }) :=
  .of_wp fun prog w A R s h => by
    obtain ⟨hp, g, d, tk, os⟩ := s
    obtain ⟨h1, h⟩ := h
    have hsub := sub_enumerate
    have q1 : ∀ {A' : Around} {E : Value → Shared → Prop} {Q : Value → Shared → Prop}, Q (.ref hp.objs.size) ⟨hp.push { cls := .type "tuple_iterator", data := .fields #[.ref l, .int 0 0] }, g, d, tk, os⟩ →
        wpAny (model prog w) A' (pyIter (.ref l)) Q E ⟨hp, g, d, tk, os⟩ := fun q => wpAny_pyIter_tuple (s := ⟨hp, g, d, tk, os⟩) h1 q
    wp_walk using q1
    refine wpAny_stack_any fun st => wpAny_pure ?_
    split
    · rename_i c _ _ _ _ _
      cases (c == Value.type "enumerate") <;>
      · wp_walk using q1
        exact ⟨_, rfl, h⟩
    · wp_walk using q1
      exact ⟨_, rfl, h⟩
variable {prog : Program} {w : World} {A : Around} {E : Value → Shared → Prop} {s : Shared}
theorem call_enumT {l : Addr} {items : Array Value} {Q : Value → Shared → Prop} (hl : s.heap.IsTuple l items)
    (h : ∀ h', IsEnum h' (s.heap.objs.size + 1) s.heap.objs.size 0 .none → h'.IsTupleIter s.heap.objs.size l 0 → h'.objs.size = s.heap.objs.size + 2 → (∀ b o, s.heap.get? b = some o → h'.get? b = some o) → Q (.ref (s.heap.objs.size + 1)) { s with heap := h' }) :
    wpAny (model prog w) A (call (.type "enumerate") [.ref l]) Q E s := by
  refine callType_new F.called_enumerate (by decide) (F.typeCall_enumerate_1 _) (F.newCall_enumerate_1 _) (fun obj => F.args_object_init_2 obj _) F.entry_enumerate_new (en_meets l items) ⟨hl, ?_⟩
  let o1 : Obj := { cls := .type "tuple_iterator", data := .fields #[.ref l, .int 0 0] }
  have hz : (s.heap.push o1).objs.size = s.heap.objs.size + 1 := Heap.size_push ..
  show _ ∧ _
  rw [show (s.heap.push { cls := .type "tuple_iterator", data := .fields #[.ref l, .int 0 0] }).objs.size = s.heap.objs.size + 1 from hz]
  have he : IsEnum ((s.heap.push o1).push { cls := .type "enumerate", data := .fields #[.none, .bool false, .ref s.heap.objs.size, rawInt 0, .none, .none] }) (s.heap.objs.size + 1) s.heap.objs.size 0 .none := by
    have := Heap.get?_push_size (s.heap.push o1) (o := { cls := .type "enumerate", data := .fields #[.none, .bool false, .ref s.heap.objs.size, rawInt 0, .none, .none] }) rfl
    rw [hz] at this; exact this
  exact ⟨⟨_, he, rfl⟩, h _ he ⟨o1, Heap.get?_push_of_some _ (Heap.get?_push_size _ rfl), rfl, rfl⟩ (by rw [Heap.size_push, hz]) fun b o x => Heap.get?_push_of_some _ (Heap.get?_push_of_some _ x)⟩
end
/-- the tuple at a, each item behind its number in a new pair -/
def IteT (K : PySem.W.Frag) (a : Addr) : It :=
  ⟨fun i H => ∃ (xs : List V) (x : V), SqT K H a xs ∧ xs[i]? = some x, fun i H v H' => ∃ T x, v = .ref T ∧ H T = none ∧ H' = upd H T (.tup [.int (i : Nat), x]) ∧ ∀ xs, SqT K H a xs → xs[i]? = some x, fun i H => ∃ xs : List V, SqT K H a xs ∧ xs.length ≤ i⟩
theorem turn_enT {P : Program} {w : World} {K : PySem.W.Frag} {elts : List Expr} {kk : Nat} {tpos : Pos} (a e it : Addr) :
    Turn P w K (.Tuple elts kk tpos) (IteT K a) [e, it] e (fun i h => (∃ old, IsEnum h e it ((i : Nat) : Int) old) ∧ h.IsTupleIter it a i ∧ e ≠ it ∧ a ≠ it ∧ a ≠ e) where
  mem := by simp
  obj := fun i h st b hb => by
    obtain ⟨⟨old, he⟩, ⟨o, ho, hc, hd⟩, _⟩ := st
    have e' : b = e ∨ b = it := by simpa using hb
    rcases e' with z | z
    · rw [z]; exact ⟨_, he, fun v q => nomatch q⟩
    · rw [z]; exact ⟨o, ho, fun v q => by rw [hd] at q; cases q⟩
  keep := fun i h h' st k => let ⟨⟨old, he⟩, hi, hne⟩ := st; ⟨⟨old, k e (by simp) _ he⟩, hi.at fun o q => k it (by simp) o q, hne⟩
  item := by
    intro X hP hw hK hc i pins s σ H E I hf st hg
    subst hP hw hK
    obtain ⟨⟨old, he⟩, hit, hne, hai, hae⟩ := st
    obtain ⟨xs, x, hq, hx⟩ := hg
    obtain ⟨its, rv, p, hz⟩ := I.tuple hq
    obtain ⟨u, hu, ru⟩ := rv.get hx
    have hel : e < s.heap.objs.size := Heap.lt_size he
    have hil : it < s.heap.objs.size := by obtain ⟨_, q, _⟩ := hit; exact Heap.lt_size q
    have hlt : i < its.toArray.size := by rw [List.size_toArray]; exact (List.getElem?_eq_some_iff.mp hu).1
    refine wpAny_pyNext_enum_itemD (Draws.tuple (A := X.A.in1) (I.ok.hd hc) it a hai its.toArray) he ⟨hit, show s.heap.IsTuple a its.toArray from p⟩ hlt hne (by simp [hne, Ne.symm hae]) fun x' h' tk hx' ho st' hT hsz hk => ?_
    have ex : x' = u := by
      have q : its[i]? = some x' := by simpa using hx'
      rw [hu] at q; exact (Option.some.inj q).symm
    subst ex
    refine ⟨_, rfl, wpAny_letOwnedTupleGo_enum (s := { s with heap := h', toks := tk + 1 }) ho fun h'' he' sb => ?_⟩
    have hT2 := (sb.2 _ (Nat.ne_of_gt hel)).trans hT
    have new : ObjOk X.prog X.w (upd H s.heap.objs.size (.tup [.int (i : Nat), x])) h'' s.heap.objs.size (.tup [.int (i : Nat), x]) := ⟨by show 2 ≤ sizeLine; decide, [.int i tk, x'], .cons ⟨_, rfl⟩ (.cons ru .nil), ⟨_, hT2, rfl, _, rfl⟩⟩
    have I1 : Inv X pins σ (upd H s.heap.objs.size (.tup [.int (i : Nat), x])) { s with heap := h'', toks := tk + 1 } :=
      I.turnedNew (ch := [e, it]) (fun b ob hb q => (sb.2 b (fun z => hb (by simp [z]))).trans (hk b ob (fun z => hb (by simp [z])) (fun z => hb (by simp [z])) q)) hf (Nat.le_refl _) new
    refine ⟨.ref s.heap.objs.size, _, I1, rfl, ⟨_, x, rfl, I.hok.fresh (Nat.le_refl _), rfl, fun ys hy => by rw [I.tuple_inj hy hq]; exact hx⟩, ⟨⟨x', ?_⟩, st'.1.at fun o q => (sb.2 it (Ne.symm hne)).trans q, hne, hai, hae⟩, fun b hb => ?_⟩
    · have e1 : ((i + 1 : Nat) : Int) = (i : Int) + 1 := by omega
      rw [e1]; exact he'
    · have hb' : b < s.heap.objs.size := by
        have e' : b = e ∨ b = it := by simpa using hb
        rcases e' with z | z
        · rw [z]; exact hel
        · rw [z]; exact hil
      rw [upd_ne (Nat.ne_of_lt hb')]
      exact (hf b hb).1
  done := by
    intro X hP hw hK hc i pins s σ H E I hf st hg
    subst hP hw hK
    obtain ⟨⟨old, he⟩, hit, hne, hai, hae⟩ := st
    obtain ⟨xs, hq, hx⟩ := hg
    obtain ⟨its, rv, p, hz⟩ := I.tuple hq
    obtain ⟨f0, f1, f2, f3, f4, f5⟩ := hf it (by simp)
    have hl := rv.length
    have hle : its.length ≤ i := by omega
    have D : Draws X.prog X.w X.A.in1 it [it, a] i (fun j v => False) (fun j h => h.IsTupleIter it a j ∧ h.IsTuple a its.toArray ∧ i ≤ j) :=
      ⟨fun _ _ st => let ⟨o, ho, _⟩ := st.1; ⟨o, ho⟩, fun _ _ _ st hk => ⟨st.1.at fun o e => hk it (by simp) o e, st.2.1.at fun o e => hk a (by simp) o e, st.2.2⟩, fun j s Q E hj st _ => absurd st.2.2 (by omega), fun s Q E st hE => wpAny_nextOf_tuple_end (I.ok.hd hc) st.1 st.2.1 (by simpa using hle) hE⟩
    exact wpAny_pyNext_enum_endD D he ⟨hit, show s.heap.IsTuple a its.toArray from p, Nat.le_refl _⟩ fun h' eb => ⟨rfl, I.turned (t' := s.toks) (fun b o hb q => eb b o hb q) f0 f1 f3 f4 f5⟩
  self := fun A i s Q E st h => let ⟨⟨_, he⟩, _⟩ := st; wpAny_pyIter_enum he h
def iEnumA (K : PySem.W.Frag) (ta : TA) : TI := fun σ H R => ta σ H fun vs H1 => ∃ a xs, vs = [.ref a] ∧ ((SqL K H1 a xs ∧ R (Ite K a) H1) ∨ (SqT K H1 a xs ∧ R (IteT K a) H1))
theorem pi_enumA {X : Cx} {e : Expr} {ta : TA} {p pos tpos : Pos} {elts : List Expr} {kk : Nat} (hg : Gl X "enumerate") (hm : X.mg "enumerate" = none) (ha : PA X [e] ta) (hs : starEach [e] X.env = [(false, eval e X.env)] := by rfl) :
    PI X (.Tuple elts kk tpos) (.Call (.Name "enumerate" p) [e] [] pos) (iEnumA X.K ta) :=
  ⟨fun pins s σ H R I h => Call_ (ld_blt I hg hm boot_enumerate (PyProof.Rows.callWith_type1 (thn (ha.run pos pins s σ H _ I h) fun us s1 ⟨vs, H1, I1, r1, a, xs, ex, q1⟩ => by
    subst ex
    obtain ⟨u, rfl, r⟩ := vals1 r1
    obtain rfl : u = Value.ref a := r
    have new2 : ∀ b ∈ [s1.heap.objs.size + 1, s1.heap.objs.size], FpOk X pins H1 b := fun b hb => by
      have hle : s1.heap.objs.size ≤ b := by
        rcases (show b = s1.heap.objs.size + 1 ∨ b = s1.heap.objs.size by simpa using hb) with z | z
        · rw [z]; exact Nat.le_add_right _ _
        · rw [z]; exact Nat.le_refl _
      exact I1.fpOk hle (I1.hok.fresh hle)
    rcases q1 with ⟨hq, q⟩ | ⟨hq, q⟩
    · obtain ⟨its, rv, p', hz⟩ := I1.list hq
      refine call_enumerate_list p'.isList fun h' he hit hsz hk => wpAny_pyIter_enum he ?_
      have I2 : Inv X pins σ H1 { s1 with heap := h' } := I1.kept (t' := s1.toks) hk
      exact ⟨s1.heap.objs.size + 1, [s1.heap.objs.size + 1, s1.heap.objs.size], _, _, H1, rfl, I2, turn_enum a _ _, ⟨⟨.none, he⟩, hit, Nat.succ_ne_self _⟩, new2, q⟩
    · obtain ⟨its, rv, p', hz⟩ := I1.tuple hq
      have la : a < s1.heap.objs.size := by obtain ⟨o, ho, _⟩ := id p'; exact Heap.lt_size ho
      refine call_enumT (show s1.heap.IsTuple a its.toArray from p') fun h' he hit hsz hk => wpAny_pyIter_enum he ?_
      have I2 : Inv X pins σ H1 { s1 with heap := h' } := I1.kept (t' := s1.toks) hk
      exact ⟨s1.heap.objs.size + 1, [s1.heap.objs.size + 1, s1.heap.objs.size], _, _, H1, rfl, I2, turn_enT a _ _, ⟨⟨.none, he⟩, hit, Nat.succ_ne_self _, Nat.ne_of_lt la, Nat.ne_of_lt (Nat.lt_succ_of_lt la)⟩, new2, q⟩) hs rfl))⟩
def enumD (ds : List PyData) : List PyData := zipD ((List.range ds.length).map fun i => .int ((i : Nat) : Int)) ds
theorem enumD_len (ds : List PyData) : (enumD ds).length = ds.length := by simp [enumD, zipD]
theorem enumD_at {ds : List PyData} {i : Nat} {d : PyData} (h : (enumD ds)[i]? = some d) : ∃ y, ds[i]? = some y ∧ d = .tuple [.int (i : Nat), y] := by
  obtain ⟨x, y, e1, e2, e3⟩ := zipD_at h
  rw [List.getElem?_map] at e1
  rcases e4 : (List.range ds.length)[i]? with _ | j
  · rw [e4] at e1; cases e1
  · rw [e4] at e1
    cases e1
    rw [List.getElem?_range (by have := (List.getElem?_eq_some_iff.mp e2).1; exact this)] at e4
    cases e4
    exact ⟨y, e2, e3⟩
def vEnum (t : TVs) : TVl := fun ρ Q => t ρ fun ss => ∃ s ds, ss = [s] ∧ (s = .v (.list ds) ∨ s = .v (.tuple ds) ∨ s = .own ds) ∧ Q (enumD ds)
section
variable {X : Cx} {K : PySem.W.Frag} {F1 : FS} {H1 : Hp}
theorem wk_enT {a : Addr} {xs : List V} {ds : List PyData} (h : SqT K H1 a xs) (r : RA K F1 H1 xs ds) : Wk true (IteT K a) K (enumD ds) F1 H1 where
  go := fun i F H m d hi => by
    have l1 := r.len
    rw [enumD_len] at hi
    exact ⟨xs, xs[i]'(by omega), m.sqt h, List.getElem?_eq_getElem (by omega)⟩
  yld := fun i F H x H' d m fo hd y => by
    obtain ⟨T, x1, rfl, hT, rfl, hx⟩ := y
    obtain ⟨dx, e1, rfl⟩ := enumD_at hd
    obtain ⟨v, q1, q2⟩ := r.get e1
    rw [hx xs (m.sqt h)] at q1
    cases q1
    have st : Stp (fun _ => False) F F H (upd H T (.tup [.int (i : Nat), x1])) := Stp.new hT
    have m2 := m.trans st.toFM
    exact ⟨F, rfl, st, fo.new hT, .inr ⟨rfl, _, _, _, rfl, rfl, SqT.of upd_same, (.cons (.int _) (.cons (Rp.mono m2 q2) .nil))⟩⟩
  stop := fun F H m _ => ⟨xs, m.sqt h, by rw [enumD_len, r.len]; exact Nat.le_refl _⟩
theorem wk_enL {a : Addr} {xs : List V} {ds : List PyData} (f : F1 a) (h : H1 a = some (.lst xs)) (r : RA K F1 H1 xs ds) : Wk true (Ite K a) K (enumD ds) F1 H1 where
  go := fun i F H m d hi => by
    have l1 := r.len
    rw [enumD_len] at hi
    exact ⟨xs, xs[i]'(by omega), SqL.of (m.fk _ _ f h), List.getElem?_eq_getElem (by omega)⟩
  yld := fun i F H x H' d m fo hd y => by
    obtain ⟨T, x1, rfl, hT, rfl, hx⟩ := y
    obtain ⟨dx, e1, rfl⟩ := enumD_at hd
    obtain ⟨v, q1, q2⟩ := r.get e1
    rw [hx xs (SqL.of (m.fk _ _ f h))] at q1
    cases q1
    have st : Stp (fun _ => False) F F H (upd H T (.tup [.int (i : Nat), x1])) := Stp.new hT
    have m2 := m.trans st.toFM
    exact ⟨F, rfl, st, fo.new hT, .inr ⟨rfl, _, _, _, rfl, rfl, SqT.of upd_same, (.cons (.int _) (.cons (Rp.mono m2 q2) .nil))⟩⟩
  stop := fun F H m _ => ⟨xs, SqL.of (m.fk _ _ f h), by rw [enumD_len, r.len]; exact Nat.le_refl _⟩
theorem vi_enum {κ1 : Nat} {tg l : Expr} {es : List Expr} {t : TVs} (hz : ∀ ta, PA X es ta → PI X tg l (iEnumA X.K ta)) (h : VA X es t κ1) : VI true X tg l (vEnum t) κ1 := by
  obtain ⟨ta, pa, g⟩ := h
  refine ⟨_, hz ta pa, fun B F H σ ρ Q R er bq t k => ?_⟩
  refine g B F H σ ρ _ _ er (by omega) t fun ss us F1 H1 cq ⟨s, ds, e, hs, q⟩ x al => ?_
  subst e
  match us, al with
  | [u], ⟨r1, o1, _⟩ =>
    rcases hs with rfl | rfl | rfl
    · cases (show R1 X.K F1 H1 u _ from r1) with
      | lst f1 h1 q1 => exact ⟨_, _, rfl, .inl ⟨SqL.of h1, k _ _ F1 H1 (by omega) q x (wk_enL f1 h1 q1)⟩⟩
    · cases (show R1 X.K F1 H1 u _ from r1) with
      | tup h1 q1 => exact ⟨_, _, rfl, .inr ⟨h1.t, k _ _ F1 H1 (by omega) q x (wk_enT h1.t q1)⟩⟩
    · obtain ⟨F2, ce, x2, _⟩ := (⟨x, r1, o1⟩ : Res X.K ρ F H F1 H1 (.own ds) u).hand (t := .v (.list ds)) rfl
      cases (show R1 X.K F2 H1 u (.list ds) from x2.sr) with
      | lst f1 h1 q1 => exact ⟨_, _, rfl, .inl ⟨SqL.of h1, k _ _ F2 H1 (by omega) q x2.toExt (wk_enL f1 h1 q1)⟩⟩
end

/-! ### sorted(d) -/
section
variable {X : Cx} {K : PySem.W.Frag}
theorem keys_read {h : Heap} : ∀ {k : List L2.Key} {us : List Value}, Vals (k.map kV) us → ReadsAll h us (k.map kD) []
  | [], _, .nil => .nil
  | .inl i :: k, _, .cons ⟨t, e⟩ r => by subst e; exact .cons (as := []) (bs := []) (.int i t) (keys_read r)
  | .inr x :: k, _, .cons ⟨t, e⟩ r => by subst e; exact .cons (as := []) (bs := []) (.str x t) (keys_read r)
/-- of a dict by tuples: its keys, sorted -/
def rSortDT : List V → Hp → L2.VK → Prop := fun vs H Q => ∃ (a : Addr) (kvs : List (List L2.Key × V)), vs = [.ref a] ∧ Rd H a (.dT kvs) ∧ PySem.W.AllAlike (kvs.map fun kv => kDs kv.1) ∧ PySem.W.Sortable (kvs.map fun kv => kDs kv.1) ∧
  ∀ (bs : List Addr) p, PySem.W.EachIs (fun b d => ∃ k : List L2.Key, d = kDs k ∧ H b = some (.tup (k.map kV))) bs (Srts (kvs.map fun kv => kDs kv.1)) → H p = none → Q (.ref p) (upd H p (.lst (bs.map V.ref)))
theorem cr_sortDT {k : Nat} (hc : X.calm = true) (hr : Room k X.A) : CallR X (.builtin "sorted") rSortDT := by
  intro pins s σ H xs us Q I r h
  obtain ⟨a, kvs, rfl, hd, al, so, q⟩ := h
  obtain ⟨u, rfl, rx⟩ := vals1 r
  obtain rfl : u = Value.ref a := rx
  obtain ⟨z, hs, ks, pr, o, es, ep, ho, hx, hdt, he, hn⟩ := (show ObjOk X.prog X.w H s.heap a (.dT kvs) from hd.ok I.hok)
  have l1 : es.size = ks.length := size_of_entries he
  have l2 : kvs.length = ks.length := Paired.length pr
  have zl : sizeLine = 16777216 := rfl
  refine Calls.call_function_entry PyProof.Rows.kind_sorted PyProof.Rows.plain_sorted PyProof.Rows.entry_sorted (PyProof.Rows.args_sorted1 _) ?_
  unfold Builtin.«sorted»
  refine wpAny_bind (m := checkCount "sorted" 1 1 _) (wpAny_pure ?_)
  refine wpAny_bind (PySem.W.kdu_collect (A := X.A.in1) (kdl_raw hs hx hdt) (I.ok.hd hc) ho (by omega) fun h' tk acc hk it => ?_)
  have ea : acc.toList = ks.map fun x => Value.ref x.2.1 := by
    have hl : acc.toList.length = ks.length := by rw [Array.length_toList, it.1]; exact l1
    refine List.ext_getElem? fun j => ?_
    rw [List.getElem?_map]
    rcases hj : acc.toList[j]? with _ | v
    · have h1 := List.getElem?_eq_none_iff.mp hj
      rw [List.getElem?_eq_none (by omega)]; rfl
    · obtain ⟨en, hen, hv⟩ := it.2 j v (by rw [← Array.getElem?_toList]; exact hj)
      have qe := entry_at he j
      rw [hen] at qe
      rcases hb : ks[j]? with _ | b
      · rw [hb] at qe; cases qe
      · rw [hb] at qe
        rw [hv, Option.some.inj qe]; rfl
  have I1 : Inv X pins σ H { s with heap := h', toks := tk } := I.kept hk
  have hal : acc.toList.length = ks.length := by rw [ea, List.length_map]
  refine wpAny_bind (wpAny_newList ?_ (by omega))
  have hoL : (h'.push (seqObj "list" acc.toList.toArray 0)).get? h'.objs.size = some (seqObj "list" acc.toList.toArray 0) := Heap.get?_push_size _ rfl
  show wpAny _ _ _ _ _ { s with heap := h'.push (seqObj "list" acc.toList.toArray 0), toks := tk }
  have keep : ∀ b ob, h'.get? b = some ob → (h'.push (seqObj "list" acc.toList.toArray 0)).get? b = some ob := fun b ob e => Heap.get?_push_of_some _ e
  have ent : ∀ {l : List (List L2.Key × V)} {m : List (List L2.Key × Addr × Value)}, KT H l m →
      PySem.W.EachIs (fun v d => ∃ (b : Addr) (k : List L2.Key), v = Value.ref b ∧ d = kDs k ∧ H b = some (.tup (k.map kV))) (m.map fun x => Value.ref x.2.1) (l.map fun kv => kDs kv.1) := by
    intro l m hp
    induction hp with
    | nil => exact .nil
    | cons h1 _ ih => exact .cons ⟨_, _, rfl, rfl, h1.2.1⟩ ih
  have e1 := ent pr
  rw [← ea] at e1
  have er : PySem.W.EachIs (fun v d => ∃ as, Reads (h'.push (seqObj "list" acc.toList.toArray 0)) v (id d) as ∧ h'.objs.size ∉ as) acc.toList (kvs.map fun kv => kDs kv.1) := e1.mono fun v d hv => by
    obtain ⟨b, k, rfl, rfl, hb⟩ := hv
    obtain ⟨_, its, rv, ob, h1, h2, n, h3⟩ := (show ObjOk X.prog X.w H h' b (.tup (k.map kV)) from I1.hok b _ hb)
    exact ⟨[], .tuple (keep _ _ h1) h2 h3 (by simpa using keys_read rv), by simp⟩
  have hu := hu64 hr
  refine wpAny_bind (wpAny_holding (PySem.W.list_sort_data (enc := id) (s := { s with heap := h'.push (seqObj "list" acc.toList.toArray 0), toks := tk }) hoL e1 er (by rw [List.map_id]; exact al) (by rw [List.map_id]; exact so) (by rw [List.length_map]; omega) (fun d hd => ?_) fun out hl eo => ?_))
  · obtain ⟨kv, _, rfl⟩ := List.mem_map.mp hd
    have : PyData.depth (kDs kv.1) ≤ 2 := by
      have : ∀ k : List L2.Key, PyData.depthAll (k.map kD) ≤ 1 := by
        intro k
        induction k with
        | nil => simp [PyData.depthAll]
        | cons a k ih => cases a <;> simp [PyData.depthAll, PyData.depth, kD] <;> omega
      have := this kv.1
      simp [kDs, PyData.depth]; omega
    show X.A.in1.units + 1 + (kDs kv.1).depth < cLine
    have e : X.A.in1.units = X.A.units + 1 := rfl
    omega
  · obtain ⟨n', hn'⟩ := PyProof.Rows.sortedHeap_at (vs := acc.toList) (out := List.toArray out) hoL
    have refs : ∀ {vs : List Value} {ds : List PyData}, PySem.W.EachIs (fun v d => ∃ (b : Addr) (k : List L2.Key), v = Value.ref b ∧ d = kDs k ∧ H b = some (.tup (k.map kV))) vs ds →
        ∃ bs : List Addr, vs = bs.map Value.ref ∧ PySem.W.EachIs (fun b d => ∃ k : List L2.Key, d = kDs k ∧ H b = some (.tup (k.map kV))) bs ds := by
      intro vs ds h
      induction h with
      | nil => exact ⟨[], rfl, .nil⟩
      | cons h1 _ ih =>
        obtain ⟨b, k, rfl, rfl, hb⟩ := h1
        obtain ⟨bs, rfl, e⟩ := ih
        exact ⟨b :: bs, rfl, .cons ⟨k, rfl, hb⟩ e⟩
    obtain ⟨bs, rfl, eb⟩ := refs eo
    have lb : bs.length = kvs.length := by simpa using hl
    have I2 : Inv X pins σ (upd H h'.objs.size (.lst (bs.map V.ref))) _ := I1.laid (t' := tk) (h' := PyProof.Rows.sortedHeap (h'.push (seqObj "list" acc.toList.toArray 0)) h'.objs.size acc.toList (List.toArray (bs.map Value.ref))) (o := .lst (bs.map V.ref)) (fun b u e => by
      have hb : b < h'.objs.size := Heap.lt_size e
      rw [PyProof.Rows.sortedHeap_old (Nat.ne_of_lt hb) (by rw [Heap.size_push]; exact Nat.lt_succ_of_lt hb)]
      exact keep _ _ e) (Nat.le_refl _) ⟨by rw [List.length_map]; omega, bs.map Value.ref, n', vals_refs bs, hn'⟩
    exact wpAny_pure ⟨_, rfl, .ref h'.objs.size, _, I2, rfl, q bs _ eb (I1.hok.fresh (Nat.le_refl _))⟩
/-- sorted(d): tuples for keys; numbers for keys -/
def fSortDT : FC := fun ss Q => ∃ s kvs, ss = [s] ∧ DicT s kvs ∧ PySem.W.AllAlike (kvs.map fun kv => kDs kv.1) ∧ PySem.W.Sortable (kvs.map fun kv => kDs kv.1) ∧ Q (.own (Srts (kvs.map fun kv => kDs kv.1)))
abbrev rSortDI : List V → Hp → L2.VK → Prop := fun xs H Q => ∃ (a : Addr) (kvs : List (L2.Key × V)) (ks : List Int), xs = [.ref a] ∧ Rd H a (.dK kvs) ∧ kvs.map (·.1) = ks.map Sum.inl ∧ ks.length < 64 ∧
    ∀ (ys : List Int) (p : Addr), ys.Perm ks → ys.Pairwise (· ≤ ·) → H p = none → Q (.ref p) (upd H p (.lst (ys.map V.int)))
def fSortDI : FC := fun ss Q => ∃ s kvs ks, ss = [s] ∧ DicK s kvs ∧ kvs.map (·.1) = ks.map Sum.inl ∧ ks.length < 64 ∧ ∀ ys : List Int, ys.Perm ks → ys.Pairwise (· ≤ ·) → Q (.own (ys.map .int))
theorem cs_sortDI : CallS K rSortDI fSortDI := by
  intro F H us ss Q R fo al ⟨s, kvs, ks, e, dt, e1, h64, q⟩ k
  subst e
  obtain ⟨u, rfl, h⟩ := ah1 al
  obtain ⟨p, ws, rfl, hp, em, r⟩ := dicK_at h dt
  exact ⟨p, ws, ks, rfl, .inl hp, by rw [em, e1], h64, fun ys l pm so hl => k _ _ _ _ (q ys pm so) (fun _ _ z => nomatch z) (.newL fo hl (RA.ints ys))⟩
def fSortDS : FC := fun ss Q => ∃ s kvs ks, ss = [s] ∧ DicK s kvs ∧ kvs.map (·.1) = ks.map Sum.inr ∧ ks.length < 64 ∧ ∀ ys : List Str, ys.Perm ks → sortedS ys = true → Q (.own (ys.map .str))
theorem cs_sortDS : CallS K rSortedD fSortDS := by
  intro F H us ss Q R fo al ⟨s, kvs, ks, e, dt, e1, h64, q⟩ k
  subst e
  obtain ⟨u, rfl, h⟩ := ah1 al
  obtain ⟨p, ws, rfl, hp, em, r⟩ := dicK_at h dt
  exact ⟨p, ws, ks, rfl, .inl hp, by rw [em, e1], h64, fun ys l pm so hl => k _ _ _ _ (q ys pm so) (fun _ _ z => nomatch z) (.newL fo hl (RA.strs ys))⟩
end
end VL
namespace VL
open PySem PySem.Spec PyProof.Rows L2 VG

/-! ### x in xs, whatever data -/
abbrev rInD (K : PySem.W.Frag) (neg : Bool) : R2 := fun x y H Q => ∃ d ds, Dp K H x d ∧ (Dp K H y (.list ds) ∨ Dp K H y (.tuple ds)) ∧ d.canLay0 = true ∧ d.depth ≤ 60 ∧ PyData.canLayAll0 ds = true ∧ Q (.bl (if neg then !ds.any (PyData.eqv · d) else ds.any (PyData.eqv · d))) H
section
variable {X : Cx}
theorem inD_room {A : Around} {ds : List PyData} {d : PyData} (h : A.units + 64 < cLine) (hd : d.depth ≤ 60) : A.units + 1 + min (PyData.depthAll ds) d.depth < cLine := by
  have := Nat.min_le_right (PyData.depthAll ds) d.depth
  omega
theorem op_inD {k : Nat} (hr : Room k X.A) : OpR X (compareOp .In) (rInD X.K false) := by
  intro pins s σ H x y v u Q I rx ry h
  obtain ⟨d, ds, dx, dy, c1, c2, c3, q⟩ := h
  obtain ⟨as, ra⟩ := Dp.reads I d x v dx rx
  have hu := inD_room (ds := ds) (hu64 hr) c2
  rcases dy with dy | dy
  · obtain ⟨bs, rb⟩ := Dp.reads I _ y u dy ry
    exact SeqAt.in_list_reads rb ra c3 c1 hu ⟨.bl _, H, I, rfl, q⟩
  · obtain ⟨bs, rb⟩ := Dp.reads I _ y u dy ry
    exact SeqAt.in_tuple_reads rb ra c3 c1 hu ⟨.bl _, H, I, rfl, q⟩
theorem op_notInD {k : Nat} (hr : Room k X.A) : OpR X (compareOp .NotIn) (rInD X.K true) := by
  intro pins s σ H x y v u Q I rx ry h
  obtain ⟨d, ds, dx, dy, c1, c2, c3, q⟩ := h
  obtain ⟨as, ra⟩ := Dp.reads I d x v dx rx
  have hu := inD_room (ds := ds) (hu64 hr) c2
  rcases dy with dy | dy
  · obtain ⟨bs, rb⟩ := Dp.reads I _ y u dy ry
    exact SeqAt.notIn_list_reads rb ra c3 c1 hu ⟨.bl _, H, I, rfl, q⟩
  · obtain ⟨bs, rb⟩ := Dp.reads I _ y u dy ry
    exact SeqAt.notIn_tuple_reads rb ra c3 c1 hu ⟨.bl _, H, I, rfl, q⟩
end
abbrev rInS (neg : Bool) : R2 := fun x y H Q => ∃ (c : Nat) (z : Str), x = .str ⟨#[c]⟩ ∧ y = .str z ∧ Q (.bl (if neg then !decide (c ∈ z.cps.toList) else decide (c ∈ z.cps.toList))) H
def fInD (neg : Bool) : FB := fun a b Q => (∃ (c : Nat) (z : Str), a = .v (.str ⟨#[c]⟩) ∧ b = .v (.str z) ∧ Q (.v (.bool (if neg then !decide (c ∈ z.cps.toList) else decide (c ∈ z.cps.toList))))) ∨
  ∃ d ds, a.asD = some d ∧ b.asQ = some ds ∧ d.canLay0 = true ∧ d.depth ≤ 60 ∧ PyData.canLayAll0 ds = true ∧ Q (.v (.bool (if neg then !ds.any (PyData.eqv · d) else ds.any (PyData.eqv · d))))
theorem layAll_nd : ∀ {ds : List PyData}, PyData.canLayAll0 ds = true → PyData.hasDictAll ds = false
  | [], _ => rfl
  | d :: ds, h => by
    simp only [PyData.canLayAll0, Bool.and_eq_true] at h
    simp [PyData.hasDictAll, PyData.hasDict_of_canLay d h.1, layAll_nd h.2]
theorem ops_inD {K : PySem.W.Frag} {neg : Bool} : OpS K (r2or (rInS neg) (rInD K neg)) (fInD neg) := by
  intro F H u w a b Q R fo ra rb q k
  rcases q with ⟨c, z, e1, e2, q⟩ | ⟨d, ds, e1, e2, f1, f2, f3, q⟩
  · subst e1 e2
    rw [str_of ra, str_of rb]
    exact .inl ⟨c, z, rfl, rfl, k _ _ F H q (fun _ _ z => nomatch z) (.same fo (.bl _))⟩
  · have dx := asD_dp ra e1 (PyData.hasDict_of_canLay d f1)
    obtain ⟨p, xs, rfl, sq, r⟩ := asQ_sq rb e2
    refine .inr ⟨d, ds, dx, ?_, f1, f2, f3, k _ _ F H q (fun _ _ z => nomatch z) (.same fo (.bl _))⟩
    rcases sq with sq | sq
    · exact .inl (.lst sq (RA.dp r (layAll_nd f3)))
    · exact .inr (.tup sq.t (RA.dp r (layAll_nd f3)))
/-- dict(pairs), new -/
def fDictO : FC := fun ss Q => ∃ (s : SV) (kvs : List (L2.Key × PyData)), ss = [s] ∧ s.asQ = some (kvs.map fun kv => .tuple [kD kv.1, kv.2]) ∧ (kvs.map (·.1)).Nodup ∧ Q (odK kvs)
theorem cs_dictO {K : PySem.W.Frag} : CallS K (rDictQ K) fDictO := by
  intro F H us ss Q R fo al ⟨s, kvs, e, e1, nd, q⟩ k
  subst e
  obtain ⟨u, rfl, h⟩ := ah1 al
  obtain ⟨a, xs, rfl, sq, r⟩ := asQ_sq h e1
  obtain ⟨ps, ws, ex, pr, ek, rr⟩ := pairs_of r
  subst ex
  have em : mergeK [] ws = ws := mergeK_nodup ws [] (by rw [List.nil_append, ek]; exact nd)
  refine ⟨a, ps, ws, rfl, sq, pr, fun p hp => ?_⟩
  rw [em]
  have e1 : (CT.K (kvs.map (·.1))).ho (ws.map (·.2)) = .dK ws := by show HO.dK _ = _; rw [← ek, zipV_back rfl rfl]
  have := PRes.newC (c := .K (kvs.map (·.1))) fo hp rr
  rw [e1] at this
  exact k _ _ _ _ q (fun _ _ z => nomatch z) this
/-- never reached -/
def vNever : TVS := fun _ _ => False
theorem vs_never {X : Cx} {st : Stmt} : VS X st vNever 0 := ⟨_, ps_never, fun _ _ _ _ _ _ _ _ _ t _ => t.elim⟩
theorem s_never {E : VEnds} {ρ : VL.Env} : vNever E ρ = False := (Eq.refl _).trans (Eq.refl _)
section
variable {kvs : List (L2.Key × PyData)} {tvs : List (List L2.Key × PyData)} {ds : List PyData} {d : PyData} {ss : List SV} {P : SV → Prop} {Q : SV → Prop} {ρ : VL.Env} {E : VEnds} {i : Nat} {te td ty tx tk tv t : TV} {ts : TVs} {T : TVS}
def asgO (s : SV) (P : SV → Prop) : Prop := match s with | .ow c ds => P (.ow c ds) | _ => False
theorem s_asgO2 : vAsgO i te E ρ = te ρ fun s => asgO s fun z => E.nx (ρ.set i z) := by
  unfold vAsgO
  congr 1
theorem asgO_own : asgO (.own ds) P = P (.own ds) := (Eq.refl _).trans (Eq.refl _)
theorem asgO_odK : asgO (odK kvs) P = P (odK kvs) := (Eq.refl _).trans (Eq.refl _)
theorem asgO_odT : asgO (odT tvs) P = P (odT tvs) := (Eq.refl _).trans (Eq.refl _)
def frzO (o : Option SV) (P : SV → Prop) : Prop := ∃ c ds, o = some (.ow c ds) ∧ P (c.fro ds)
theorem s_frz2 : vFrz i T E ρ = frzO (ρ[i]?) fun z => T E (ρ.set i z) := (Eq.refl _).trans (Eq.refl _)
theorem frz_own : frzO (some (.own ds)) P = P (.v (.list ds)) := propext ⟨fun ⟨c, es, e, h⟩ => by injection e with e; injection e with e1 e2; subst e1 e2; exact h, fun h => ⟨.lst, ds, rfl, h⟩⟩
theorem frz_odK : frzO (some (odK kvs)) P = P (.v (dKD kvs)) := propext ⟨fun ⟨c, es, e, h⟩ => by
    injection e with e; injection e with e1 e2; subst e1 e2
    have : CT.fro (.K (kvs.map (·.1))) (kvs.map (·.2)) = .v (dKD kvs) := by show SV.v (.dict _) = _; rw [zipD_back]; rfl
    rw [← this]; exact h, fun h => ⟨.K (kvs.map (·.1)), kvs.map (·.2), rfl, by show P (SV.v (.dict _)); rw [zipD_back]; exact h⟩⟩
theorem frz_odT : frzO (some (odT tvs)) P = P (fzT tvs) := propext ⟨fun ⟨c, es, e, h⟩ => by injection e with e; injection e with e1 e2; subst e1 e2; exact h, fun h => by
    refine ⟨_, _, rfl, ?_⟩
    exact h⟩
theorem hand_odK : SV.hand (odK kvs) = some (.v (dKD kvs)) := by show some (SV.v (.dict _)) = _; rw [zipD_back]; rfl
theorem hand_odT : SV.hand (odT tvs) = some (fzT tvs) := (Eq.refl _).trans (Eq.refl _)
theorem hand_fzT : SV.hand (fzT tvs) = some (fzT tvs) := (Eq.refl _).trans (Eq.refl _)
theorem lend_odK : SV.lend (odK kvs) = bdK kvs := (Eq.refl _).trans (Eq.refl _)
theorem lend_odT : SV.lend (odT tvs) = bdT tvs := (Eq.refl _).trans (Eq.refl _)
theorem lend_fzT : SV.lend (fzT tvs) = fzT tvs := (Eq.refl _).trans (Eq.refl _)
theorem hands_odK : hands (odK kvs :: ss) = (hands ss).map (SV.v (dKD kvs) :: ·) := by
  show (match SV.hand (odK kvs), hands ss with | some t, some ts => some (t :: ts) | _, _ => none) = _
  rw [hand_odK]
  rcases hands ss <;> rfl
theorem hands_odT : hands (odT tvs :: ss) = (hands ss).map (fzT tvs :: ·) := by
  show (match SV.hand (odT tvs), hands ss with | some t, some ts => some (t :: ts) | _, _ => none) = _
  rw [hand_odT]
  rcases hands ss <;> rfl
theorem hands_fzT : hands (fzT tvs :: ss) = (hands ss).map (fzT tvs :: ·) := by
  show (match SV.hand (fzT tvs), hands ss with | some t, some ts => some (t :: ts) | _, _ => none) = _
  rw [hand_fzT]
  rcases hands ss <;> rfl
theorem taps_odK : TapsOld ρ (odK kvs :: ss) = TapsOld ρ ss := propext ⟨fun h => h.2, fun h => ⟨trivial, h⟩⟩
theorem taps_odT : TapsOld ρ (odT tvs :: ss) = TapsOld ρ ss := propext ⟨fun h => h.2, fun h => ⟨trivial, h⟩⟩
theorem taps_fzT : TapsOld ρ (fzT tvs :: ss) = TapsOld ρ ss := propext ⟨fun h => h.2, fun h => ⟨trivial, h⟩⟩
theorem datasIn_odK : datasIn (odK kvs :: ss) = (datasIn ss).map (dKD kvs :: ·) := by
  unfold datasIn
  rw [hands_odK]
  rcases hands ss with _ | ts
  · rfl
  · show datas (SV.v (dKD kvs) :: ts) = _
    rfl
theorem m_dnewK : vDNewK ρ Q = Q (odK []) := (Eq.refl _).trans (Eq.refl _)
theorem m_dnewT : vDNewT ρ Q = Q (odT []) := (Eq.refl _).trans (Eq.refl _)
theorem odK_ex {P : List (L2.Key × PyData) → Prop} : (∃ l, some (odK kvs) = some (odK l) ∧ P l) ↔ P kvs :=
  ⟨fun ⟨l, e, h⟩ => by injection e with e; injection e with e1 e2; injection e1 with e1; rw [pair_inj e1 e2]; exact h, fun h => ⟨kvs, rfl, h⟩⟩
theorem odT_ex {P : List (List L2.Key × PyData) → Prop} : (∃ l, some (odT tvs) = some (odT l) ∧ P l) ↔ P tvs :=
  ⟨fun ⟨l, e, h⟩ => by injection e with e; injection e with e1 e2; injection e1 with e1; rw [pair_inj e1 e2]; exact h, fun h => ⟨tvs, rfl, h⟩⟩
theorem s_putK : vPutK i tk tv E ρ = ∃ kvs, ρ[i]? = some (odK kvs) ∧ tv ρ fun z => ∃ dv, datasIn [z] = some [dv] ∧ tk ρ fun s => ∃ d k, s = .v d ∧ keyOf d = some k ∧ kvs.length < 100000 ∧ E.nx (ρ.set i (odK (gPut kvs k dv))) := (Eq.refl _).trans (Eq.refl _)
theorem s_putT : vPutT i ts tv E ρ = ∃ kvs, ρ[i]? = some (odT kvs) ∧ tv ρ fun z => ∃ dv, datasIn [z] = some [dv] ∧ ts ρ fun ss => ∃ k, datasIn ss = some (k.map kD) ∧ k.length ≤ 100000 ∧ kvs.length < 100000 ∧ E.nx (ρ.set i (odT (gPut kvs k dv))) := (Eq.refl _).trans (Eq.refl _)
theorem keyI_ex {n : Int} {P : L2.Key → Prop} : (∃ d k, SV.v (.int n) = .v d ∧ keyOf d = some k ∧ P k) ↔ P (.inl n) :=
  ⟨fun ⟨d, k, e, e2, h⟩ => by injection e with e; subst e; cases e2; exact h, fun h => ⟨_, _, rfl, rfl, h⟩⟩
theorem keyS_ex {x : Str} {P : L2.Key → Prop} : (∃ d k, SV.v (.str x) = .v d ∧ keyOf d = some k ∧ P k) ↔ P (.inr x) :=
  ⟨fun ⟨d, k, e, e2, h⟩ => by injection e with e; subst e; cases e2; exact h, fun h => ⟨_, _, rfl, rfl, h⟩⟩
theorem m_get1 : vGet1 td ty ρ Q = td ρ fun a => ((∃ kvs, DicK a kvs) ∨ ∃ kvs, DicT a kvs) ∧ ty ρ fun b => Lk a b fun o => Q (.v (o.getD .none)) := (Eq.refl _).trans (Eq.refl _)
theorem m_get2 : vGet2 td ty tx ρ Q = td ρ fun a => ((∃ kvs, DicK a kvs) ∨ ∃ kvs, DicT a kvs) ∧ ty ρ fun b => tx ρ fun z => ∃ d0, z = .v d0 ∧ Lk a b fun o => Q (.v (o.getD d0)) := (Eq.refl _).trans (Eq.refl _)
theorem isd_bdK : ((∃ l, DicK (bdK kvs) l) ∨ ∃ l, DicT (bdK kvs) l) = True := propext ⟨fun _ => trivial, fun _ => .inl ⟨_, .inr (.inl rfl)⟩⟩
theorem isd_odK : ((∃ l, DicK (odK kvs) l) ∨ ∃ l, DicT (odK kvs) l) = True := propext ⟨fun _ => trivial, fun _ => .inl ⟨_, .inl rfl⟩⟩
theorem isd_dKD : ((∃ l, DicK (.v (dKD kvs)) l) ∨ ∃ l, DicT (.v (dKD kvs)) l) = True := propext ⟨fun _ => trivial, fun _ => .inl ⟨_, .inr (.inr (.inl rfl))⟩⟩
theorem isd_dct : ((∃ l, DicK (.dct kvs) l) ∨ ∃ l, DicT (.dct kvs) l) = True := propext ⟨fun _ => trivial, fun _ => .inl ⟨_, .inr (.inr (.inr rfl))⟩⟩
theorem isd_bdT : ((∃ l, DicK (bdT tvs) l) ∨ ∃ l, DicT (bdT tvs) l) = True := propext ⟨fun _ => trivial, fun _ => .inr ⟨_, .inr (.inl rfl)⟩⟩
theorem isd_odT : ((∃ l, DicK (odT tvs) l) ∨ ∃ l, DicT (odT tvs) l) = True := propext ⟨fun _ => trivial, fun _ => .inr ⟨_, .inl rfl⟩⟩
theorem isd_fzT : ((∃ l, DicK (fzT tvs) l) ∨ ∃ l, DicT (fzT tvs) l) = True := propext ⟨fun _ => trivial, fun _ => .inr ⟨_, .inr (.inr rfl)⟩⟩
theorem lk_K {s : SV} {k : L2.Key} {P : Option PyData → Prop} (h : DicK s kvs) (hk : keyOf d = some k) (p : P (gFind kvs k)) : Lk s (.v d) P := .inl ⟨kvs, d, k, h, rfl, hk, p⟩
theorem lk_T {s : SV} {k : List L2.Key} {P : Option PyData → Prop} (h : DicT s tvs) (p : P (gFind tvs k)) : Lk s (.v (kDs k)) P := .inr ⟨tvs, k, h, rfl, p⟩
theorem m_gitem {a b : SV} : fGItem a b Q = Lk a b fun o => ∃ d, o = some d ∧ Q (.v d) := (Eq.refl _).trans (Eq.refl _)
theorem m_gin {a b : SV} {neg : Bool} : fGIn neg b a Q = Lk a b fun o => Q (.v (.bool (if neg then !o.isSome else o.isSome))) := (Eq.refl _).trans (Eq.refl _)
theorem s_aug {f : Int → Int → Int} : vAug i f te E ρ = ∃ a, ρ[i]? = some (.v (.int a)) ∧ te ρ fun s => isI s fun b => E.nx (ρ.set i (.v (.int (f a b)))) := (Eq.refl _).trans (Eq.refl _)
theorem vint_ex {n : Int} {P : Int → Prop} : (∃ a, some (SV.v (.int n)) = some (.v (.int a)) ∧ P a) ↔ P n :=
  ⟨fun ⟨a, e, h⟩ => by injection e with e; injection e with e; injection e with e; rw [e]; exact h, fun h => ⟨n, rfl, h⟩⟩
theorem m_fIsB {neg x y : Bool} : fIsB neg (.v (.bool x)) (.v (.bool y)) Q = Q (.v (.bool (if neg then !(x == y) else (x == y)))) := propext ⟨fun ⟨a, b, e1, e2, h⟩ => by injection e1 with e1; injection e1 with e1; injection e2 with e2; injection e2 with e2; subst e1 e2; exact h, fun h => ⟨x, y, rfl, rfl, h⟩⟩
theorem m_isi2 {S U : String} : vIsi2 S U te ρ Q = te ρ fun s => ∃ d, s.asD = some d ∧ Q (.v (.bool (isT S d || isT U d))) := (Eq.refl _).trans (Eq.refl _)
theorem m_enum {R : List PyData → Prop} : vEnum ts ρ R = ts ρ fun ss => ∃ s ds, ss = [s] ∧ (s = .v (.list ds) ∨ s = .v (.tuple ds) ∨ s = .own ds) ∧ R (enumD ds) := (Eq.refl _).trans (Eq.refl _)
theorem enT_ex {R : List PyData → Prop} : (∃ s es, [SV.v (.tuple ds)] = [s] ∧ (s = .v (.list es) ∨ s = .v (.tuple es) ∨ s = .own es) ∧ R es) ↔ R ds := by
  refine ⟨fun ⟨s, es, e, h, r⟩ => ?_, fun h => ⟨_, ds, rfl, .inr (.inl rfl), h⟩⟩
  injection e with e
  subst e
  rcases h with h | h | h
  · injection h with h; cases h
  · injection h with h; injection h with h; rw [h]; exact r
  · cases h
theorem enL_ex {R : List PyData → Prop} : (∃ s es, [SV.v (.list ds)] = [s] ∧ (s = .v (.list es) ∨ s = .v (.tuple es) ∨ s = .own es) ∧ R es) ↔ R ds := by
  refine ⟨fun ⟨s, es, e, h, r⟩ => ?_, fun h => ⟨_, ds, rfl, .inl rfl, h⟩⟩
  injection e with e
  subst e
  rcases h with h | h | h
  · injection h with h; injection h with h; rw [h]; exact r
  · injection h with h; cases h
  · cases h
theorem s_parN {is : List Nat} : vParN is ts E ρ = ts ρ fun ss => keeps ss = true ∧ ss.length = is.length ∧ ss.length ≤ 1000 ∧ E.nx (setAll ρ is ss) := (Eq.refl _).trans (Eq.refl _)
theorem keeps_nil : (keeps [] = true) = True := propext ⟨fun _ => trivial, fun _ => rfl⟩
theorem keeps_v : keeps (.v d :: ss) = keeps ss := (Eq.refl _).trans (Eq.refl _)
theorem keeps_own : keeps (.own ds :: ss) = keeps ss := (Eq.refl _).trans (Eq.refl _)
theorem keeps_odK : keeps (odK kvs :: ss) = keeps ss := (Eq.refl _).trans (Eq.refl _)
theorem keeps_odT : keeps (odT tvs :: ss) = keeps ss := (Eq.refl _).trans (Eq.refl _)
theorem keeps_fzT : keeps (fzT tvs :: ss) = keeps ss := (Eq.refl _).trans (Eq.refl _)
theorem keeps_dct : keeps (.dct kvs :: ss) = keeps ss := (Eq.refl _).trans (Eq.refl _)
theorem setAll_nil {ρ : VL.Env} : setAll ρ [] [] = ρ := (Eq.refl _).trans (Eq.refl _)
theorem setAll_cons {ρ : VL.Env} {is : List Nat} {s : SV} : setAll ρ (i :: is) (s :: ss) = setAll (ρ.set i s) is ss := (Eq.refl _).trans (Eq.refl _)
theorem m_dictO : fDictO ss Q = ∃ (s : SV) (kvs : List (L2.Key × PyData)), ss = [s] ∧ s.asQ = some (kvs.map fun kv => .tuple [kD kv.1, kv.2]) ∧ (kvs.map (·.1)).Nodup ∧ Q (odK kvs) := (Eq.refl _).trans (Eq.refl _)
end
/-! ### three names at once -/
section
variable {X : Cx}
theorem len3 {α : Type} : ∀ {l : List α}, l.length = 3 → ∃ a b c, l = [a, b, c]
  | [a, b, c], _ => ⟨a, b, c, rfl⟩
theorem vs_par3 {κ : Nat} {i j k : Nat} {st : Stmt} {es : List Expr} {t : TVs} (h : ∀ ta, PA X es ta → PS X st (tPar3 i j k ta)) (ha : VD X es t κ) : VS X st (vParN [i, j, k] t) κ := by
  obtain ⟨ta, pa, g⟩ := ha
  refine ⟨_, h ta pa, fun B F H σ ρ E D er bq t k => ?_⟩
  refine g B F H σ ρ _ _ er (by omega) t fun ss us F' H' cq ⟨kp, hl, hz, q⟩ x al od => ?_
  have lu := al.len
  have er' := er.step x
  have old : ∀ q, H q = none → B.H0 q = none := fun q z => by
    by_cases w : B.H0 q = none
    · exact w
    · exact absurd z (er.bs.ex q w)
  have hl : ss.length = 3 := hl
  obtain ⟨s, z, y, rfl⟩ := len3 hl
  obtain ⟨u, w, v, rfl⟩ := len3 (l := us) (by first | exact lu | exact lu.symm | (rw [lu]; rfl))
  exact ⟨u, w, v, rfl, k.nx F' H' _ _ (by omega) (par_go [_, _, _] [u, w, v] [s, z, y] σ ρ er' (pend_of er' old er er.refl.cp al) od kp) q⟩
end
/-! ### len of a dict -/
def fLenD : FC := fun ss Q => ∃ s kvs, ss = [s] ∧ DicK s kvs ∧ Q (.v (.int kvs.length))
theorem cs_lenD {K : PySem.W.Frag} : CallS K (fun xs H Q => ∃ a kvs, xs = [V.ref a] ∧ H a = some (.dK kvs) ∧ Q (.int kvs.length) H) fLenD := by
  intro F H us ss Q R fo al ⟨s, kvs, e, dt, q⟩ k
  subst e
  obtain ⟨u, rfl, h⟩ := ah1 al
  obtain ⟨p, ws, rfl, hp, em, r⟩ := dicK_at h dt
  refine ⟨p, ws, rfl, hp, ?_⟩
  rw [show ws.length = kvs.length by simpa using congrArg List.length em]
  exact k _ _ F H q (fun _ _ z => nomatch z) (.same fo (.int _))
end VL
namespace VL
open PySem PySem.Spec PyProof.Rows L2 VG

/-! ### keywords of which some are left out -/
section
variable {K : PySem.W.Frag} {x qual : Str} {pr : Arguments} {body : List Stmt} {sc : Scope} {kws : List (Str × V)} {f : Addr} {fd : FuncData} {ps : List Str}
theorem kbn_part {n : Nat} {ks : List Str} (ms : List (Str × V)) (js : List Nat) (F : FunD K x qual pr body sc [] kws f fd) (hk : kws ≠ []) (hms : ∀ q ∈ ms, q ∈ kws)
    (h : ∀ (D : Addr) (doc pm : Value) (an : Option Addr) (cdv ct : Value) (us mv ws : List Value), us.length = n → mv.length = ms.length → ws.length = ks.length →
      KwChain D ((ms.map (·.1)).zip mv) (bindArgs (PySem.W.fnOf x qual pr body sc .none (.ref D) doc pm an cdv ct) ⟨us, ks.zip ws⟩) (ps.zip (sel js (us ++ ws ++ mv)))) :
    ∃ mv : List Value, KBn K fd ps n ks (fun us ws => sel js (us ++ ws ++ mv)) (fun vs zs => sel js (vs ++ zs ++ ms.map (·.2))) :=
  F.kbinds0 n ks ms (fun us mv ws => sel js (us ++ ws ++ mv)) hk hms (fun a b c => vals_sel ((a.append c).append b) js) h
end
theorem AllR.of_ra {K : PySem.W.Frag} {ρ : VL.Env} {F : FS} {H H1 : Hp} : ∀ {vs : List V} {ds : List PyData}, RA K F H vs ds → AllR K ρ F H H1 vs (ds.map SV.v)
  | _, _, .nil => trivial
  | _, _, .cons a b => ⟨a, trivial, AllR.of_ra b⟩
def vCallD (n1 n2 n : Nat) (js : List Nat) (tf : TF) (dss : List PyData) (t tk : TVs) : TV := fun ρ Q => t ρ fun ss => tk ρ fun zs =>
  TapsOld ρ (sel js (ss ++ zs ++ dss.map SV.v)) ∧ ∃ ts, hands (sel js (ss ++ zs ++ dss.map SV.v)) = some ts ∧ ss.length = n1 ∧ zs.length = n2 ∧ ts.length = n ∧ tf ts Q
section
variable {X : Cx} {e : Expr}
theorem ve_callD {κ1 κ2 κ : Nat} {n1 n2 n : Nat} {js : List Nat} {tf : TF} {dvs : List V} {dss : List PyData} {es : List Expr} {ks : List Keyword} {t tk : TVs}
    (h : ∀ ta tk', PA X es ta → PK X ks tk' → PE X e (tCallN n1 n2 (spOf X.K n κ tf) (fun a b => sel js (a ++ b ++ dvs)) E0 ta tk')) (hd : ∀ F H, RA X.K F H dvs dss) (ha : VA X es t κ1) (hk : VK X ks tk κ2) : VE X e (vCallD n1 n2 n js tf dss t tk) (κ1 + κ2 + κ) := by
  obtain ⟨ta, pa, g⟩ := ha
  obtain ⟨tke, pk, gk⟩ := hk
  refine ⟨_, h ta tke pa pk, fun B F H σ ρ Q R er bq t k => ?_⟩
  refine g B F H σ ρ _ _ er (by omega) t fun ss us F1 H1 cq q1 x1 a1 => ?_
  refine gk B F1 H1 σ ρ _ _ (er.step x1) (by omega) q1 fun zs vs F2 H2 cq ⟨ol, ts, e, l1, l2, hn, q⟩ x2 a2 => ?_
  have al := ((a1.keep er.refl.cp x2).append (a2.back x1)).append (AllR.of_ra (hd F2 H2))
  have := call_go (dss := []) (vs := []) (x1.trans x2) (al.sel js) ol e (fun _ _ => .nil) (by simpa using hn) (κ := κ) (by omega) (tf := tf) (Q := Q) (R := R) (by simpa using q) fun s u F' H' c => k s u F' H' (by omega)
  rw [List.append_nil] at this
  exact ⟨a1.len.trans l1, a2.len.trans l2, this⟩
theorem ve_callD0 {κ1 κ : Nat} {n2 n : Nat} {js : List Nat} {tf : TF} {dvs : List V} {dss : List PyData} {ks : List Keyword} {tk : TVs}
    (h : ∀ tk', PK X ks tk' → PE X e (tCallN 0 n2 (spOf X.K n κ tf) (fun a b => sel js (a ++ b ++ dvs)) E0 tNil tk')) (hd : ∀ F H, RA X.K F H dvs dss) (hk : VK X ks tk κ1) : VE X e (vCallD 0 n2 n js tf dss vNil tk) (κ1 + κ) := by
  obtain ⟨tke, pk, gk⟩ := hk
  refine ⟨_, h tke pk, fun B F H σ ρ Q R er bq t k => ?_⟩
  refine gk B F H σ ρ _ _ er (by omega) t fun zs vs F2 H2 cq ⟨ol, ts, e, l1, l2, hn, q⟩ x2 a2 => ?_
  have al := AllR.append (us := []) (ss := []) trivial (a2.append (AllR.of_ra (hd F2 H2)))
  have := call_go (us := sel js ([] ++ vs ++ dvs)) (ss := sel js ([] ++ zs ++ dss.map SV.v)) (dss := []) (vs := []) x2 (by simpa using al.sel js) ol e (fun _ _ => .nil) (by simpa using hn) (κ := κ) (by omega) (tf := tf) (Q := Q) (R := R) (by simpa using q) fun s u F' H' c => k s u F' H' (by omega)
  rw [List.append_nil] at this
  exact ⟨rfl, a2.len.trans l2, this⟩
end
theorem s_callD {n1 n2 n : Nat} {js : List Nat} {tf : TF} {dss : List PyData} {t tk : TVs} {ρ : VL.Env} {Q : SV → Prop} : vCallD n1 n2 n js tf dss t tk ρ Q = t ρ fun ss => tk ρ fun zs =>
  TapsOld ρ (sel js (ss ++ zs ++ dss.map SV.v)) ∧ ∃ ts, hands (sel js (ss ++ zs ++ dss.map SV.v)) = some ts ∧ ss.length = n1 ∧ zs.length = n2 ∧ ts.length = n ∧ tf ts Q := (Eq.refl _).trans (Eq.refl _)

/-! ### sorted(set(xs)), xs a tuple or list of ints -/
def rSetI (w : World) (K : PySem.W.Frag) : List V → Hp → L2.VK → Prop := fun vs H Q => ∃ (p : Addr) (ns : List Int), vs = [.ref p] ∧ SqT K H p (ns.map V.int) ∧ ns.length ≤ 1000 ∧
  ∀ (a : Addr) (c : Nat), H a = none → c ≤ ns.length → Q (.ref a) (upd H a (SetO w a (fun j => decide (j ∈ ns)) c))
theorem cr_setI {X : Cx} (hc : X.calm = true) : CallR X (.type "set") (rSetI X.w X.K) := by
  intro pins s σ H xs us Q J r h
  obtain ⟨p, ns, rfl, hq, hl, q⟩ := h
  obtain ⟨u, rfl, rx⟩ := vals1 r
  cases rx
  obtain ⟨vz, rv, pt, _⟩ := J.tuple hq
  refine call_set_tupI ns (J.ok.hd hc) (show s.heap.IsTuple p vz.toArray from pt) (ints_of_vals rv) (by unfold scanBound; omega) fun h' tk c R1 hcn k => ?_
  exact ⟨.ref s.heap.objs.size, _, J.laid (t' := tk) k (Nat.le_refl _) (setO_new R1), rfl, q _ c (J.hok.fresh (Nat.le_refl _)) hcn⟩
/-- ns without what comes twice, rising -/
structure IsSorted (ns ms : List Int) : Prop where
  ri : ms.Pairwise (· < ·)
  mem : ∀ k, k ∈ ms ↔ k ∈ ns
theorem IsSorted.uniq {ns ms ms' : List Int} (a : IsSorted ns ms) (b : IsSorted ns ms') : ms = ms' := by
  have p : ms.Perm ms' := (List.perm_ext_iff_of_nodup (a.ri.imp fun h => Int.ne_of_lt h) (b.ri.imp fun h => Int.ne_of_lt h)).mpr fun k => (a.mem k).trans (b.mem k).symm
  exact p.eq_of_pairwise (le := (· ≤ ·)) (fun x y _ _ h1 h2 => Int.le_antisymm h1 h2) (a.ri.imp fun h => Int.le_of_lt h) (b.ri.imp fun h => Int.le_of_lt h)
def vSortSet (t : TV) : TV := fun ρ Q => t ρ fun s => ∃ ns : List Int, s.asT = some (ns.map PyData.int) ∧ ns.length < 64 ∧ ∀ ms : List Int, IsSorted ns ms → Q (.own (ms.map PyData.int))
theorem ve_sortSet {X : Cx} {κ1 : Nat} {e a : Expr} {t : TV} (h : ∀ te, PE X a te → PE X e (tCB (rSortedSet X.w) (tCons (tCB (rSetI X.w X.K) (tCons te tNil)) tNil))) (ha : VE X a t κ1) : VE X e (vSortSet t) κ1 := by
  obtain ⟨te, pe, g⟩ := ha
  refine ⟨_, h te pe, fun B F H σ ρ Q R er bq t k => ?_⟩
  refine g B F H σ ρ _ _ er (by omega) t fun s u F1 H1 cq ⟨ns, e1, hl, q⟩ x => ?_
  obtain ⟨p, xs, rfl, sq, r⟩ := asT_sq x.sr e1
  rw [data_ints r] at sq
  refine ⟨p, ns, rfl, sq.t, by omega, fun a c ha hc => ⟨a, _, c, rfl, upd_same, by omega, fun ms l ri mem hn hl2 => ?_⟩⟩
  have st : Stp (fun _ => False) F1 F1 H1 (upd H1 a (SetO X.w a (fun j => decide (j ∈ ns)) c)) := Stp.new ha
  have dm : FOk F1 (upd H1 a (SetO X.w a (fun j => decide (j ∈ ns)) c)) := x.dm.new ha
  have x2 : Ext ρ F H F1 (upd H1 a (SetO X.w a (fun j => decide (j ∈ ns)) c)) := x.toExt.trans (⟨st.more fun _ z => z.elim, dm, fun i b ns' hi => (er.step x.toExt |>.cell hi).keep st (fun z => z), fun b ⟨i, ns', hi⟩ => (er.step x.toExt |>.cell hi).there⟩ : Ext ρ F1 H1 F1 _)
  exact k _ _ _ _ (by omega) (q ms ⟨ri, fun j => (mem j).trans (by simp)⟩) ((PRes.newL (us := ms.map V.int) dm hl2 (RA.ints ms)).res x2 fun _ _ z => nomatch z)

/-! ### t.index(x) -/
def rTupIx (K : PySem.W.Frag) : V → List V → Hp → L2.VK → Prop := fun x xs H Q => ∃ (p : Addr) (ws : List V) (y : V) (d : PyData) (ds : List PyData) (j : Nat) (z : PyData), x = V.ref p ∧ xs = [y] ∧ SqT K H p ws ∧ DpAll K H ws ds ∧ Dp K H y d ∧
  PyData.canLayAll0 ds = true ∧ d.canLay0 = true ∧ d.depth ≤ 60 ∧ ds[j]? = some z ∧ PyData.eqv z d = true ∧ (∀ (m : Nat) (z' : PyData), m < j → ds[m]? = some z' → PyData.eqv z' d = false) ∧ Q (.int (j : Nat)) H
theorem mt_tupIx {X : Cx} (hu : X.A.units + 64 < cLine) : MtR X "tuple.index" (rTupIx X.K) := by
  intro pins s σ H x xs v us Q J rx rxs h
  obtain ⟨p, ws, y, d, ds, j, z, rfl, rfl, hq, hds, hy, c1, c2, c3, hz, ez, no, q⟩ := h
  cases rx
  obtain ⟨uy, rfl, ry⟩ := vals1 rxs
  obtain ⟨bs, rb⟩ := Dp.reads J d y uy hy ry
  obtain ⟨vz, rv, ⟨⟨cls, dd, dat, slo⟩, ho, hc, n, hd⟩, _⟩ := J.tuple hq
  simp only at hc hd
  subst hc hd
  obtain ⟨as, ra⟩ := Dp.readsAll J ds ws vz hds rv
  have ln : vz.length = ds.length := SeqAt.ReadsAll.length ds vz as ra
  have em : vz.map (SeqAt.readOf s.heap) = ds := SeqAt.readsAll_map ds vz as c1 ra
  have at_ : ∀ (m : Nat) (hm : m < vz.toArray.size) (w : PyData), ds[m]? = some w → SeqAt.readOf s.heap vz.toArray[m] = w := fun m hm w hw => by
    rw [← em, List.getElem?_map] at hw
    have hl : m < vz.length := by simpa using hm
    rw [List.getElem?_eq_getElem hl] at hw
    simpa using hw
  have hj : j < vz.toArray.size := by
    have := (List.getElem?_eq_some_iff.mp hz).1
    simp only [List.size_toArray]
    omega
  have room := inD_room (ds := ds) hu c3
  refine call_meets PySem.F.slot_tuple_index ⟨_, ho, rfl⟩ PySem.F.entry_tuple_index (PySem.F.args_tuple_index_2 _ _) (TI.tuple_indexAt p vz.toArray n dd slo uy (fun u => PyData.eqv (SeqAt.readOf s.heap u) d) j hj ?_ ?_)
    ⟨ho, SeqAt.items_eqAt (vs := vz.toArray) (show ReadsAll s.heap vz.toArray.toList ds as from ra) rb c1 c2 room, ⟨.int (j : Nat), H, J.tok _, ⟨_, rfl⟩, q⟩⟩
  · show PyData.eqv (SeqAt.readOf s.heap vz.toArray[j]) d = true
    rw [at_ j hj z hz]
    exact ez
  · intro m hm hmj
    have hl : m < ds.length := by
      simp only [List.size_toArray] at hm
      omega
    have e := List.getElem?_eq_getElem hl
    show PyData.eqv (SeqAt.readOf s.heap vz.toArray[m]) d = false
    rw [at_ m hm _ e]
    exact no m _ hmj e
/-- a method of a tuple that is known to hold no dict -/
def tBMN (K : PySem.W.Frag) (r : V → List V → Hp → L2.VK → Prop) (to : TE) (t : TA) : TE := fun σ H Q => to σ H fun x H1 => (∃ p xs, x = .ref p ∧ SqN K H1 p xs) ∧ t σ H1 fun xs H2 => r x xs H2 Q
section
variable {X : Cx} {o e : Expr} {es : List Expr} {to : TE} {t : TA} {name : Str} {apos cpos : Pos} {id : String} {r : V → List V → Hp → L2.VK → Prop}
theorem pe_bmN (pa : PlainAttrs "tuple") (sl : Slot "tuple" name id) (ty : typeOf (.builtin id) = pure (.type "method_descriptor")) (hm : MtR X id r) (ho : PE X o to) (ha : PA X (e :: es) t) (e1 : attributeBase o name X.env (eval o X.env) = eval o X.env := by rfl)
    (e2 : ((backTo cpos (starEach (e :: es) X.env)).all (fun x => !x.1) && (backToKw cpos (keywordEach [] X.env)).all (fun x => x.1.isSome) && decide ((e :: es).length + ([] : List Keyword).length + (if ([] : List Keyword).isEmpty then 0 else 1) < 30)) = true := by rfl) (e3 : (apos.endLine == cpos.line) = true := by rfl)
    (e4 : starEach (e :: es) X.env = (false, eval e X.env) :: starEach es X.env := by rfl) (e5 : (backTo cpos (starEach es X.env)).any (·.1) = false := by rfl) : PE X (.Call (.Attribute o name apos) (e :: es) [] cpos) (tBMN X.K r to t) := by
  refine ⟨fun pins s σ H Q J h => wpAny_Call_method_late e1 e2 e3 rfl (thn (ho.run pins s σ H _ J h) fun v s1 w => ?_)⟩
  obtain ⟨x, H1, J1, r1, ⟨p, xs, rfl, sq⟩, q1⟩ := w
  cases r1
  obtain ⟨ob, g1, g2, g3⟩ := sq.free J1
  refine ⟨"tuple", id, pa, sl, ty, ⟨ob, g1, g2⟩, fun a ea => by cases ea; exact ⟨ob, g1, g3⟩, ?_⟩
  have go := ha.run cpos pins s1 σ H1 _ J1 q1
  rw [e4] at go ⊢
  refine Calls.callWith_builtin (by show (false || (backTo cpos (starEach es X.env)).any (·.1)) = false; rw [e5]; rfl) (Calls.evalArgs_plain (thn go fun us s2 w2 => ?_))
  obtain ⟨ys, H2, J2, r2, q2⟩ := w2
  exact hm pins s2 σ H2 (.ref p) ys (.ref p) us Q J2 rfl r2 q2
end
def vTupIx (to ty : TV) : TV := fun ρ Q => to ρ fun a => ∃ ds, a = .v (.tuple ds) ∧ ty ρ fun b => ∃ d j z, b = .v d ∧ PyData.canLayAll0 ds = true ∧ d.canLay0 = true ∧ d.depth ≤ 60 ∧ ds[j]? = some z ∧ PyData.eqv z d = true ∧
  (∀ (m : Nat) (z' : PyData), m < j → ds[m]? = some z' → PyData.eqv z' d = false) ∧ Q (.v (.int (j : Nat)))
theorem ve_tupIx {X : Cx} {κ1 κ2 : Nat} {e a b : Expr} {to ty : TV} (h : ∀ te ti, PE X a te → PE X b ti → PE X e (tBMN X.K (rTupIx X.K) te (tCons ti tNil))) (ha : VE X a to κ1) (hb : VE X b ty κ2) : VE X e (vTupIx to ty) (κ1 + κ2) := by
  obtain ⟨te, pe, g⟩ := ha
  obtain ⟨ti, pi, gi⟩ := hb
  refine ⟨_, h te ti pe pi, fun B F H σ ρ Q R er bq t k => ?_⟩
  refine g B F H σ ρ _ _ er (by omega) t fun s u F1 H1 cq ⟨ds, e1, q⟩ x => ?_
  subst e1
  obtain ⟨p, xs, rfl, sq, _⟩ := asT_sq (ds := ds) x.sr rfl
  refine ⟨⟨p, xs, rfl, sq⟩, gi B F1 H1 σ ρ _ _ (er.step x.toExt) (by omega) q fun s2 u2 F2 H2 cq2 ⟨d, j, z, e2, c1, c2, c3, hz, ez, no, q2⟩ x2 => ?_⟩
  subst e2
  have y := x.toExt.trans x2.toExt
  obtain ⟨p', xs', ep, sq', r'⟩ := asT_sq (ds := ds) (x.sr.keep x.fo er.refl.cp x2.toExt) rfl
  exact ⟨p', xs', u2, d, ds, j, z, ep, rfl, sq'.t, RA.dp r' (layAll_nd c1), asD_dp x2.sr rfl (PyData.hasDict_of_canLay d c2), c1, c2, c3, hz, ez, no, k _ _ F2 H2 (by omega) q2 ⟨y, .int _, trivial⟩⟩
section
variable {t to ty : TV} {ρ : VL.Env} {Q : SV → Prop}
theorem m_sortSet : vSortSet t ρ Q = t ρ fun s => ∃ ns : List Int, s.asT = some (ns.map PyData.int) ∧ ns.length < 64 ∧ ∀ ms : List Int, IsSorted ns ms → Q (.own (ms.map PyData.int)) := (Eq.refl _).trans (Eq.refl _)
theorem m_vtupIx : vTupIx to ty ρ Q = to ρ fun a => ∃ ds, a = .v (.tuple ds) ∧ ty ρ fun b => ∃ d j z, b = .v d ∧ PyData.canLayAll0 ds = true ∧ d.canLay0 = true ∧ d.depth ≤ 60 ∧ ds[j]? = some z ∧ PyData.eqv z d = true ∧
  (∀ (m : Nat) (z' : PyData), m < j → ds[m]? = some z' → PyData.eqv z' d = false) ∧ Q (.v (.int (j : Nat))) := (Eq.refl _).trans (Eq.refl _)
end
end VL
namespace VL
open PySem PySem.Spec PyProof.Rows L2 VG

/-- tuples with texts ahead; those of one text can be compared to their ends -/
structure HeadAlike (ds : List PyData) : Prop where
  tup : ∀ d ∈ ds, ∃ x r, d = .tuple (.str x :: r)
  alk : ∀ x r r', PyData.tuple (.str x :: r) ∈ ds → PyData.tuple (.str x :: r') ∈ ds → PySem.W.alikeAll r r' = true
theorem HeadAlike.two {ds : List PyData} (h : HeadAlike ds) {x : Str} {r r' : List PyData} (m : PyData.tuple (.str x :: r) ∈ ds) (m' : PyData.tuple (.str x :: r') ∈ ds) : PySem.W.alikeAll (.str x :: r) (.str x :: r') = true := by
  rw [PySem.W.alikeAll, h.alk x r r' m m']
  rfl
theorem reads_head {h : Heap} {v : Value} {x y : Str} {r r' : List PyData} {as bs : List Addr} (a : Reads h v (.tuple (.str x :: r)) as) (b : Reads h v (.tuple (.str y :: r')) bs) : x = y := by
  cases a with
  | tuple h1 h2 h3 h4 =>
    cases b with
    | tuple k1 k2 k3 k4 =>
      rw [h1] at k1
      cases k1
      rw [h3] at k3
      injection k3 with k3 _
      subst k3
      revert h4 k4
      generalize Array.toList _ = l
      intro h4 k4
      cases h4 with
      | cons a1 a2 =>
        cases k4 with
        | cons b1 b2 =>
          cases a1
          cases b1
          rfl
theorem headKind_some {h : Heap} {ds : List PyData} (hal : HeadAlike ds) {v : Value} {d : PyData} {as : List Addr} (hd : d ∈ ds) (r : Reads h v d as) : (PySem.W.dataKind h ds).keyOf v = some (PySem.W.keyToks d) := by
  have q : ∃ d, d ∈ ds ∧ ∃ as, Reads h v d as := ⟨d, hd, as, r⟩
  have e : (PySem.W.dataKind h ds).keyOf v = some (PySem.W.keyToks q.choose) := dif_pos q
  obtain ⟨m, as2, r2⟩ := q.choose_spec
  rw [e]
  congr 2
  generalize q.choose = d2 at m r2 ⊢
  obtain ⟨x, t, rfl⟩ := hal.tup d hd
  obtain ⟨y, t2, rfl⟩ := hal.tup d2 m
  obtain rfl := reads_head r2 r
  exact PySem.W.alike_unique _ _ _ _ _ (hal.two m hd) r2 r
section
variable {prog : Program} {w : World} {A : Around} {s : Shared}
theorem sortsAt_heads {vs : List Value} {ds : List PyData} (e : PySem.W.EachIs (fun v d => ∃ as, Reads s.heap v d as) vs ds) (hal : HeadAlike ds) (hu : ∀ d, d ∈ ds → A.units + d.depth < cLine) : PySem.W.SortsAt prog w A s (PySem.W.dataKind s.heap ds) vs := by
  have tt : ∀ d, d ∈ ds → ∃ x r, d = PyData.tuple (x :: r) := fun d hd => let ⟨x, r, z⟩ := hal.tup d hd; ⟨.str x, r, z⟩
  have hb : (Value.type "str" != Value.type "tuple") = true := by decide
  refine ⟨fun v hv => ?_, tuples' (Value.type "str" != Value.type "tuple"), ?_, fun h2 E Q hq => ?_⟩
  · obtain ⟨d, hd, as, r⟩ := e.left v hv
    exact ⟨_, headKind_some hal hd r⟩
  · intro E x y a b Q ha hb' hq
    obtain ⟨d, as, hd, ra, rfl⟩ := PySem.W.dataKind_inv ha
    obtain ⟨d2, as2, hd2, rb, rfl⟩ := PySem.W.dataKind_inv hb'
    obtain ⟨x1, r1, rfl⟩ := hal.tup d hd
    obtain ⟨x2, r2, rfl⟩ := hal.tup d2 hd2
    have room := hu _ hd
    replace hq : Q (PySem.W.dataLt (.tuple (.str x1 :: r1)) (.tuple (.str x2 :: r2))) s := hq
    rw [PySem.W.dataLt_tuple] at hq
    cases ra with
    | @tuple l o xs n _ _ h1 h2 h3 h4 =>
      cases rb with
      | @tuple l' o' xs' n' _ _ k1 k2 k3 k4 =>
        have n1 : xs.size = (PyData.str x1 :: r1).length := by simpa using SeqAt.ReadsAll.length _ _ _ h4
        have n2 : xs'.size = (PyData.str x2 :: r2).length := by simpa using SeqAt.ReadsAll.length _ _ _ k4
        refine PySem.W.kat_lt h1 h3 k1 k3 ?_
        by_cases ex : x1 = x2
        · subst ex
          refine PySem.W.katLex_alike (.str x1 :: r1) (.str x1 :: r2) 0 _ _ _ _ h4 k4 (hal.two hd hd2) ?_ (fun _ _ z t t2 ez => by cases ez; exact fun z => nomatch z) (by rw [n1, n2]) hq
          have : min (PyData.depthAll (.str x1 :: r1)) (PyData.depthAll (.str x1 :: r2)) ≤ PyData.depthAll (.str x1 :: r1) := Nat.min_le_left _ _
          simp only [PyData.depth] at room
          omega
        · rw [PySem.W.dataLt_all_no (x := .str x1) (y := .str x2) rfl (by simp only [PyData.eqv]; exact beq_false_of_ne ex), PySem.W.dataLt_str] at hq
          revert h4 k4
          generalize xs.toList = u1
          generalize xs'.toList = u2
          intro h4 k4
          cases h4 with
          | cons a1 a2 =>
            cases k4 with
            | cons b1 b2 =>
              cases a1
              cases b1
              rw [List.zip_cons_cons]
              refine PySem.W.kat_cons (wpAny_eqBool_str ?_)
              rw [decide_eq_false ex]
              refine PySem.W.kat_no ?_
              rw [hb]
              exact oneLt_str hq
  · obtain ⟨fs, t1, t2, t3⟩ := PySem.W.each_katTups e tt
    refine PySem.W.kat_kind (T := .type "str") t1 (by omega) (fun f hf => ?_) (beq_self_eq_true _) hq
    obtain ⟨x, r, as, m1, m2⟩ := t3 f hf
    obtain ⟨z, t, ez⟩ := hal.tup _ m1
    injection ez with ez
    injection ez with ez _
    subst ez
    exact PySem.W.looks_reads m2
end
section
variable {X : Cx} {K : PySem.W.Frag}
def rSortedH (K : PySem.W.Frag) : List V → Hp → L2.VK → Prop := fun xs H Q => ∃ (P : V → PyData → Prop) (a : Addr) (vs : List V) (ds : List PyData), xs = [.ref a] ∧ SqL K H a vs ∧ PySem.W.EachIs P vs ds ∧ DpAll K H vs ds ∧ HeadAlike ds ∧ (∀ d ∈ ds, d.depth ≤ 60) ∧
  ∀ ys p, PySem.W.EachIs P ys (Srts ds) → H p = none → Q (.ref p) (upd H p (.lst ys))
theorem cr_sortedH {k : Nat} (hr : Room k X.A) : CallR X (.builtin "sorted") (rSortedH X.K) := by
  intro pins s σ H xs us Q J r h
  obtain ⟨P, a, vs, ds, rfl, hs, ep, dp, al, dl, q⟩ := h
  obtain ⟨vz, rv, hl, hz⟩ := J.list hs
  obtain ⟨u, rfl, ru⟩ := vals1 r
  obtain rfl : u = Value.ref a := ru
  obtain ⟨as, rd⟩ := Dp.readsAll J ds vs vz dp rv
  have ev := each_vals rv ep
  have lens := ev.length
  have room := hu64 hr
  have er : PySem.W.EachIs (fun v d => ∃ as, Reads (PySem.W.sortingHeap (PySem.W.copyHeap s.heap vz) (s.heap.objs.size + 1) vz) v d as) vz ds :=
    (each_reads rd).mono fun _ _ z => let ⟨as, z⟩ := z; ⟨as, PyProof.Rows.Reads.keeps (fun _ _ => PySem.W.sorting_copy_old) z⟩
  have lo : vz.length ≤ sizeLine := by rw [← rv.length]; exact hz
  refine PySem.W.sorted_vals hl.isList (sortsAt_heads (s := { s with heap := PySem.W.sortingHeap (PySem.W.copyHeap s.heap vz) (s.heap.objs.size + 1) vz }) er al fun d hd => ?_) lo ?_
  · have := dl d hd
    show _ + 2 + d.depth < cLine
    omega
  · have ek : PySem.W.EachIs (fun v d => (PySem.W.dataKind (PySem.W.sortingHeap (PySem.W.copyHeap s.heap vz) (s.heap.objs.size + 1) vz) ds).keyOf v = some (PySem.W.keyToks (id d))) vz ds :=
      (PySem.W.each_mem er).mono fun _ _ z => let ⟨⟨_, r⟩, hd⟩ := z; headKind_some al hd r
    have eo : PySem.W.EachIs (fun u d => ∃ x, RelV x u ∧ P x d) _ (Srts ds) := PySem.W.sortVals_each (rev := false) (κ := PySem.W.dataKind (PySem.W.sortingHeap (PySem.W.copyHeap s.heap vz) (s.heap.objs.size + 1) vz) ds) (fun d : PyData => PySem.W.keyToks (id d)) ev ek
    obtain ⟨ys, g1, g2⟩ := vals_each eo
    obtain ⟨n, hn⟩ := sortedAll_at s.heap vz (PySem.W.sortVals (PySem.W.dataKind (PySem.W.sortingHeap (PySem.W.copyHeap s.heap vz) (s.heap.objs.size + 1) vz) ds) false vz vz).toArray
    refine ⟨.ref (s.heap.objs.size + 1), upd H (s.heap.objs.size + 1) (.lst ys), J.laid (t' := s.toks) (fun b o e => sortedAll_old e) (Nat.le_succ _) ⟨?_, _, n, g1, hn⟩, rfl, q _ _ g2 (J.hok.fresh (Nat.le_succ _))⟩
    rw [g1.length, PySem.W.sortVals_length false rfl]
    exact lo
def fSortH : FC := fun ss Q => ∃ s ds, ss = [s] ∧ s.asL = some ds ∧ HeadAlike ds ∧ PyData.hasDictAll ds = false ∧ (∀ d ∈ ds, d.depth ≤ 60) ∧ Q (.own (Srts ds))
theorem cs_sortH : CallS K (rSortedH K) fSortH := by
  intro F H us ss Q R fo al ⟨s, ds, e, e1, h1, h2, h3, q⟩ k
  subst e
  obtain ⟨u, rfl, h⟩ := ah1 al
  obtain ⟨a, xs, rfl, sq, r⟩ := asL_sq h e1
  exact ⟨fun v d => R1 K F H v d, a, xs, ds, rfl, sq, ra_each r, RA.dp r h2, h1, h3, fun ys p er hp => k _ _ _ _ q (fun _ _ z => nomatch z) (.newL fo hp (each_ra er))⟩
end
end VL
namespace VL
open PySem PySem.Spec PyProof.Rows L2 VG
section
variable {K : PySem.W.Frag}
/-- sum(xs) of a list or of a tuple of ints -/
def rSumQ (K : PySem.W.Frag) : List V → Hp → (V → Hp → Prop) → Prop := fun us G P => ∃ (b : Addr) (is : List Int), us = [V.ref b] ∧ (SqL K G b (is.map V.int) ∨ SqT K G b (is.map V.int)) ∧ P (.int is.sum) G
theorem cr_sumQ {X : Cx} (calm : X.calm = true) : CallR X (.builtin "sum") (rSumQ X.K) := by
  intro pn st sg G xs us P J rr hh
  obtain ⟨b, is, e, hq | hq, qq⟩ := hh
  · exact cr_sum calm pn st sg G xs us P J rr ⟨b, is, e, hq, qq⟩
  subst e
  obtain ⟨u, eu, rx⟩ := vals1 rr
  subst eu
  cases rx
  obtain ⟨vz, rv, hl, _⟩ := J.tuple hq
  have hi := rv.ints
  obtain ⟨zs, ez⟩ := hi.allInts.items
  have hn : numsOf (intItems zs).toList = is := by rw [← ez]; exact hi.numsOf
  rw [nums_intItems] at hn
  rw [ez] at hl
  refine PySem.W.ktm_sumG (J.ok.hd calm) hl fun h' tk tt kp => ?_
  rw [preSum_eq, List.take_of_length_le (by simp), hn]
  exact ⟨.int _, G, J.kept kp, ⟨_, rfl⟩, qq⟩
def fSumQ : FC := fun ss Q => ∃ (s : SV) (is : List Int), ss = [s] ∧ s.asQ = some (is.map PyData.int) ∧ Q (.v (.int is.sum))
theorem cs_sumQ : CallS K (rSumQ K) fSumQ := by
  intro F G us ss Q R fo al ⟨s, is, e, e1, q⟩ k
  subst e
  obtain ⟨u, eu, h⟩ := ah1 al
  subst eu
  obtain ⟨a, xs, e2, sq, r⟩ := asQ_sq h e1
  subst e2
  have er := data_ints r
  subst er
  exact ⟨a, is, rfl, sq.imp id SqN.t, k _ _ F G q (fun _ _ z => nomatch z) (.same fo (.int _))⟩
end

/-! ### xs.extend(ys), ys a list or a tuple -/
namespace TX
open PySem
theorem ext_tup (l : Addr) (is : Array Value) (c : Nat) (b : Addr) (js : Array Value) (e : Nat) (dd : Option Addr) (slo : Array (Option Value)) (long : ¬(!is.isEmpty && Builtin.List.listTooLong (is.size + js.size)) = true) (few : is.size ≤ sizeLine) (all : is.size + js.size ≤ sizeLine + 1) :
    Meets (Builtin.«list.extend» ⟨[.ref l, .ref b], []⟩) (fun _ R s => s.heap.get? l = some { cls := .type "list", dict := none, data := .seq is c, slots := #[] } ∧ s.heap.get? b = some { cls := .type "tuple", dict := dd, data := .seq js e, slots := slo } ∧
      R (.ok (.ret Value.none)) { s with heap := s.heap.update l (Obj.mapSeq fun z => z ++ js), toks := s.toks }) :=
  .of_wp fun prog w A R s hh => by
    obtain ⟨hp, gg, dr, tk, os⟩ := s
    obtain ⟨g1, g2, hh⟩ := hh
    have f1 := AutoSeq1.idx_int
    have f2 := AutoSeq1.sub_tuple_tuple
    have f3 := AutoSeq1.sub_list_list
    have f4 := AutoSeq1.sub_tuple_list
    have f5 := AutoSeq1.sub_list_tuple
    have siz : (is ++ js).size ≤ sizeLine + 1 := by rw [Array.size_append]; exact all
    wp_walk using (wpAny_updateSeq g1 rfl (hz := few) (_hz' := siz)), AutoSeq1.wpAny_loadPart' g1, AutoSeq1.wpAny_loadPart' g2
    exact ⟨_, rfl, hh⟩
end TX
def rExtendQ (K : PySem.W.Frag) : V → List V → Hp → (V → Hp → Prop) → Prop := fun x us G P => ∃ l b xs zs, x = .ref l ∧ us = [.ref b] ∧ G l = some (.lst xs) ∧ (G b = some (.lst zs) ∨ SqT K G b zs) ∧ xs.length + zs.length ≤ sizeLine ∧ P .non (upd G l (.lst (xs ++ zs)))
theorem mt_extendQ {X : Cx} : MtM X "list.extend" (rExtendQ X.K) := by
  intro pn st sg G x us v ws P J rx rv hh
  obtain ⟨l, b, xs, zs, e1, e2, gl, hb | hb, hz, qq⟩ := hh
  · exact mt_extend pn st sg G x us v ws P J rx rv ⟨l, b, xs, zs, e1, e2, gl, hb, hz, qq⟩
  subst e1 e2
  cases rx
  obtain ⟨u, eu, ru⟩ := rv.one
  subst eu
  cases ru
  obtain ⟨z, its, n, r, hl, e⟩ := J.lstM gl
  obtain ⟨vz, r2, ⟨⟨cls, dd, dat, slo⟩, ho, hc, n2, hd⟩, _⟩ := J.tuple hb
  simp only at hc hd
  subst hc hd
  have l2 := r2.length
  have hsz : its.toArray.size + vz.toArray.size ≤ sizeLine := by rw [List.size_toArray, List.size_toArray]; omega
  have hlong : ¬ (!its.toArray.isEmpty && Builtin.List.listTooLong (its.toArray.size + vz.toArray.size)) = true := by
    rw [notLongL hsz, Bool.and_false]
    exact Bool.false_ne_true
  refine call_meets PySem.F.slot_list_extend ⟨_, e, rfl⟩ PySem.F.entry_list_extend (PySem.F.args_list_extend_2 _ _) (TX.ext_tup l its.toArray n b vz.toArray n2 dd slo hlong (by rw [List.size_toArray]; omega) (by omega)) ⟨e, ho, ?_⟩
  refine ⟨.non, _, J.lset (its' := its ++ vz) gl e (by simp) (r.append r2) ?_, rfl, qq⟩
  rw [List.length_append]
  omega
def SV.asX (s : SV) : Option (List PyData) := match s.asW with
  | some es => some es
  | none => s.asT
def vExtendQ (i : Nat) (t : TV) : TVS := fun E ρ => ∃ ds, ρ[i]? = some (.own ds) ∧ t ρ fun s => ∃ es, s.asX = some es ∧ ds.length + es.length ≤ 100000 ∧ E.nx (ρ.set i (.own (ds ++ es)))
theorem m_extQ {i : Nat} {t : TV} {E : VEnds} {ρ : VL.Env} : vExtendQ i t E ρ = ∃ ds, ρ[i]? = some (.own ds) ∧ t ρ fun s => ∃ es, s.asX = some es ∧ ds.length + es.length ≤ 100000 ∧ E.nx (ρ.set i (.own (ds ++ es))) := (Eq.refl _).trans (Eq.refl _)
theorem vs_extendQ {X : Cx} {st : Stmt} {e : Expr} {i : Nat} {t : TV} {κ1 : Nat} (h : ∀ te, PE X e te → PS X st (tDrop (tBM X.K "list" (rExtendQ X.K) (tVar i) (tCons te tNil)))) (he : VE X e t κ1) : VS X st (vExtendQ i t) κ1 := by
  obtain ⟨te, pe, g⟩ := he
  refine ⟨_, h te pe, fun B F H σ ρ E D er bq ⟨ds, e2, t⟩ k => ?_⟩
  obtain ⟨p, us, h1, h2, _, _⟩ := er.own e2
  refine ⟨.ref p, h1, .inl ⟨rfl, us, SqL.of h2⟩, ?_⟩
  refine g B F H σ ρ _ _ er (by omega) t fun s u F1 H1 cq ⟨es, e1, hz, q⟩ x => ?_
  have er2 := er.step x.toExt
  obtain ⟨p', ws, h1', h2', nf, ra⟩ := er2.own e2
  rw [h1] at h1'
  injection h1' with h1'; injection h1' with h1'; injection h1' with h1'
  subst h1'
  have two : ∃ b zs, u = .ref b ∧ (H1 b = some (.lst zs) ∨ SqT X.K H1 b zs) ∧ RA X.K F1 H1 zs es := by
    unfold SV.asX at e1
    rcases ew : s.asW with _ | es'
    · rw [ew] at e1
      obtain ⟨b, zs, q1, q2, q3⟩ := asT_sq x.sr e1
      exact ⟨b, zs, q1, .inr q2.t, q3⟩
    · rw [ew] at e1
      cases e1
      obtain ⟨b, zs, q1, q2, q3⟩ := asW_at x.sr ew
      exact ⟨b, zs, q1, .inl q2, q3⟩
  obtain ⟨b, zs, rfl, h3, r⟩ := two
  refine ⟨p, b, ws, zs, rfl, rfl, h2', h3, ?_, k.nx F1 _ _ _ (by omega) (er2.write (c1 := .lst) e2 h1 h2' nf (ra.append r)) q⟩
  rw [ra.len, r.len]
  exact Nat.le_trans hz (by decide)
end VL
namespace VL
open PySem PySem.Spec PyProof.Rows L2 VG
namespace TX
open PySem
theorem max_args (a d : Value) : argsOk "max" ⟨[a], [(Str.ofString "default", d)]⟩ := by unfold argsOk; kernel_rfl
section
variable {prog : Program} {w : World} {A : Around} {E : Value → Shared → Prop} {s : Shared} {R : Result → Shared → Prop} {I : Addr} {fp wr : List Addr} {G : Array GenState → Array GenState → Prop} {n : Nat} {P : Nat → Value → Prop} {St : Nat → Shared → Prop}
/-- the end of the loop where one was found -/
theorem loop_one (W : WalksS prog w A.in1 I fp wr G n P St) (S : Addr) (hSf : S ∉ fp) {d : Value} {t : Shared} {vb : Value} {c : Nat} (hst : St n t) (hS : t.heap.get? S = some { cls := .type "list", dict := none, data := .seq #[vb, vb] c, slots := #[] })
    (hR : ∀ s', Moved (S :: wr) G t s' → R (.ok (.ret vb)) s') : codeAny (model prog w) A (.builtin "max.loop" ⟨[.ref I, .none, .ref S], [(Str.ofString "default", d)]⟩) R t := by
  have nSw : S ∉ wr := fun z => hSf (W.sub _ z)
  have sub : ∀ b ∈ wr, b ∈ S :: wr := fun b z => List.mem_cons_of_mem _ z
  have oth : ∀ {b : Addr}, b ∉ S :: wr → S ≠ b := fun z e => z (by rw [e]; exact List.mem_cons_self)
  refine codeAny_builtin PySem.F.entry_max_loop ?_
  rw [Around.under_plainId PySem.F.plain_max_loop _]
  show wpAny _ A.in1 (seqItems? (.ref S) >>= _) _ _ t
  refine wpAny_bind (wpAny_seqItems hS rfl ?_)
  show wpAny _ A.in1 (tryCatch (pyNext (.ref I)) _ >>= _) _ _ t
  refine wpAny_bind (wpAny_tryCatch (W.done t _ _ hst fun s' hm => ?_))
  have hS2 := hm.heap S _ nSw hS
  show wpAny _ A.in1 (updateSeq S (fun _ => #[]) >>= _) _ _ _
  refine wpAny_bind ?_
  refine wpAny_updateSeq hS2 rfl (wpAny_bind (wpAny_letGo (wpAny_pure ?_)))
  exact hR _ ((hm.mono sub).then_heap (tk := s'.toks) (Nat.le_refl _) fun b o hb e => (Heap.get?_update_other _ _ (oth hb)).trans e)
/-- the loop over none: the default -/
theorem loop_none (W : WalksS prog w A.in1 I fp wr G 0 P St) (S : Addr) (hSf : S ∉ fp) {d : Value} {t : Shared} {c : Nat} (hst : St 0 t) (hS : t.heap.get? S = some { cls := .type "list", dict := none, data := .seq #[] c, slots := #[] })
    (hR : ∀ s', Moved (S :: wr) G t s' → R (.ok (.ret d)) s') : codeAny (model prog w) A (.builtin "max.loop" ⟨[.ref I, .none, .ref S], [(Str.ofString "default", d)]⟩) R t := by
  have sub : ∀ b ∈ wr, b ∈ S :: wr := fun b z => List.mem_cons_of_mem _ z
  refine codeAny_builtin PySem.F.entry_max_loop ?_
  rw [Around.under_plainId PySem.F.plain_max_loop _]
  show wpAny _ A.in1 (seqItems? (.ref S) >>= _) _ _ t
  refine wpAny_bind (wpAny_seqItems hS rfl ?_)
  show wpAny _ A.in1 (tryCatch (pyNext (.ref I)) _ >>= _) _ _ t
  refine wpAny_bind (wpAny_tryCatch (W.done t _ _ hst fun s' hm => ?_))
  show wpAny _ A.in1 (rule _ >>= _) _ _ _
  refine wpAny_bind (wpAny_rule ?_)
  exact wpAny_pure (hR _ (hm.mono sub))
theorem loop_first (W : WalksS prog w A.in1 I fp wr G 1 P St) (S : Addr) (hSf : S ∉ fp) {d : Value} {t : Shared} {c : Nat} (hst : St 0 t) (hS : t.heap.get? S = some { cls := .type "list", dict := none, data := .seq #[] c, slots := #[] })
    (hR : ∀ v s', P 0 v → Moved (S :: wr) G t s' → R (.ok (.ret v)) s') : codeAny (model prog w) A (.builtin "max.loop" ⟨[.ref I, .none, .ref S], [(Str.ofString "default", d)]⟩) R t := by
  have nSw : S ∉ wr := fun z => hSf (W.sub _ z)
  have sub : ∀ b ∈ wr, b ∈ S :: wr := fun b z => List.mem_cons_of_mem _ z
  have nam : (toString "max" ++ toString ".loop" : String) = "max.loop" := by decide
  have oth : ∀ {b : Addr}, b ∉ S :: wr → S ≠ b := fun z e => z (by rw [e]; exact List.mem_cons_self)
  refine codeAny_builtin PySem.F.entry_max_loop ?_
  rw [Around.under_plainId PySem.F.plain_max_loop _]
  show wpAny _ A.in1 (seqItems? (.ref S) >>= _) _ _ t
  refine wpAny_bind (wpAny_seqItems hS rfl ?_)
  show wpAny _ A.in1 (tryCatch (pyNext (.ref I)) _ >>= _) _ _ t
  refine wpAny_bind (wpAny_tryCatch (W.item 0 t _ _ Nat.one_pos hst fun v s' hP hst' hm => ?_))
  have hS2 := hm.heap S _ nSw hS
  show wpAny _ A.in1 (updateSeq S (fun _ => #[v, v]) >>= _) _ _ _
  refine wpAny_bind ?_
  refine wpAny_updateSeq hS2 rfl ?_
  rw [nam]
  refine wpAny_pure ⟨plainId_quiet PySem.F.plain_max_loop _, loop_one W S hSf (W.frame _ s' _ s'.toks hst' (Nat.le_refl _) fun b hb o e => ?_) (Heap.get?_update_self _ hS2 rfl) fun s'' hm2 => ?_⟩
  · exact (Heap.get?_update_other _ _ (fun z : S = b => hSf (by rw [z]; exact hb))).trans e
  · exact hR v s'' hP (Moved.trans W.gtrans ((hm.mono sub).then_heap (by first | exact Nat.le_refl _ | exact Nat.le_succ _ | omega) fun b o hb e => (Heap.get?_update_other _ _ (oth hb)).trans e) hm2)
end
section
variable {prog : Program} {w : World} {A : Around} {E : Value → Shared → Prop} {s : Shared} {l : Addr} {xs : Array (Int × Tok)}
theorem max_dflt {d : Value} {Q : Value → Shared → Prop} (hh : A.handled = none) (hl : s.heap.IsList l (intItems xs)) (few : xs.size ≤ 1)
    (h : ∀ v h' tk, (xs.size = 0 → v = d) → (xs.size = 1 → ∃ t, v = .int (numAt xs 0) t) → (∀ b o, s.heap.get? b = some o → h'.get? b = some o) → Q v { s with heap := h', toks := tk }) :
    wpAny (model prog w) A (call (.builtin "max") [.ref l] [(Str.ofString "default", d)]) Q E s := by
  have nam : (toString "max" ++ toString ".loop" : String) = "max.loop" := by decide
  have sz : (intItems xs).size = xs.size := by simp [intItems]
  refine kmk_tree PySem.F.kind_max PySem.F.plain_max PySem.F.entry_max (max_args _ _) ?_
  show wpAny _ A.in1 (Builtin.Builtins.bindParams "max" ["key", "default"] 0 ⟨[], [(Str.ofString "default", d)]⟩ >>= _) _ _ s
  refine wpAny_bind (wpAny_of_eq (show Builtin.Builtins.bindParams "max" ["key", "default"] 0 ⟨[], [(Str.ofString "default", d)]⟩ = pure [none, some d] from rfl) ?_)
  refine wpAny_bind (wpAny_pure ?_)
  refine wpAny_bind (iter_intList hl fun s2 e2 st hfp hlI => ?_)
  subst e2
  have W := (Walks.list (prog := prog) (w := w) (A := A.in1) hh s.heap.objs.size l hlI (intItems xs)).toS
  rw [sz] at W
  refine wpAny_bind (wpAny_newObj_type ?_)
  rw [nam]
  have S1 : (s.heap.push { cls := .type "list_iterator", data := .fields #[.ref l, .int 0 0] }).objs.size = s.heap.objs.size + 1 := Heap.size_push ..
  have hSf : (s.heap.push { cls := .type "list_iterator", data := .fields #[.ref l, .int 0 0] }).objs.size ∉ [s.heap.objs.size, l] := fun hm => Nat.lt_irrefl _ (hfp _ hm)
  have fin : ∀ (v : Value) (s' : Shared), (xs.size = 0 → v = d) → (xs.size = 1 → ∃ t, v = .int (numAt xs 0) t) →
      Moved ((s.heap.push { cls := .type "list_iterator", data := .fields #[.ref l, .int 0 0] }).objs.size :: [s.heap.objs.size]) (fun a b => b = a)
        { s with heap := (s.heap.push { cls := .type "list_iterator", data := .fields #[.ref l, .int 0 0] }).push { cls := .type "list", data := .seq #[] }, toks := s.toks } s' → Q v s' := fun v s' q0 q1 hm => by
    obtain ⟨h', g', d', tk', os'⟩ := s'
    have e1 : g' = s.gens := hm.gens
    have e2 : d' = s.drawn := hm.drawn
    have e3 : os' = s.os := hm.os
    subst e1 e2 e3
    refine h v h' tk' q0 q1 fun b o e => hm.heap b o (fun hb => ?_) (Heap.get?_push_of_some _ (Heap.get?_push_of_some _ e))
    have lt := Heap.lt_size e
    rcases List.mem_cons.mp hb with z | z
    · rw [z, S1] at lt; exact Nat.lt_irrefl _ (Nat.lt_of_succ_lt lt)
    · rw [List.mem_singleton.mp z] at lt; exact Nat.lt_irrefl _ lt
  refine wpAny_pure ⟨plainId_quiet PySem.F.plain_max_loop _, ?_⟩
  have st2 := W.frame 0 _ ((s.heap.push { cls := .type "list_iterator", data := .fields #[.ref l, .int 0 0] }).push { cls := .type "list", data := .seq #[] }) s.toks st (Nat.le_refl _) fun b _ o e => Heap.get?_push_of_some _ e
  have cases2 : xs.size = 0 ∨ xs.size = 1 := by omega
  rcases cases2 with z | z
  · rw [z] at W
    exact loop_none W _ hSf st2 (Heap.get?_push_size _ rfl) fun s' hm => fin d s' (fun _ => rfl) (fun y => absurd y (by omega)) hm
  · rw [z] at W
    refine loop_first W _ hSf st2 (Heap.get?_push_size _ rfl) fun v s' hP hm => fin v s' (fun y => absurd y (by omega)) (fun _ => ?_) hm
    exact intItems_at hP
end
end TX
section
variable {X : Cx}
/-- max(xs, default=n), xs a list of at most one int -/
def rMaxD (K : PySem.W.Frag) (n : Int) : List V → List V → Hp → (V → Hp → Prop) → Prop := fun vs zs G P => ∃ (a : Addr) (is : List Int), vs = [V.ref a] ∧ zs = [V.int n] ∧ SqL K G a (is.map V.int) ∧ is.length ≤ 1 ∧ P (.int (is.headD n)) G
theorem cr_maxD {n : Int} (calm : X.calm = true) : CallRK X (.builtin "max") [Str.ofString "default"] (rMaxD X.K n) := by
  intro pn st sg G vs zs us ws P J r rz hh
  obtain ⟨a, is, e1, e2, hs, few, qq⟩ := hh
  subst e1 e2
  obtain ⟨its, rv, hl, _⟩ := J.list hs
  rw [Vals.ref1 r]
  obtain ⟨w1, ew, er⟩ := vals1 rz
  subst ew
  obtain ⟨w0, t0⟩ : ∃ t, w1 = Value.int n t := er
  have hi := rv.ints
  obtain ⟨xs, ex⟩ := hi.allInts.items
  have hn : numsOf (intItems xs).toList = is := by rw [← ex]; exact hi.numsOf
  rw [nums_intItems] at hn
  have hl2 := hl.isList
  rw [ex] at hl2
  have ln : xs.size = is.length := by rw [← hn]; simp
  refine TX.max_dflt (J.ok.hd calm) hl2 (by omega) fun v h' tk q0 q1 kp => ?_
  cases is with
  | nil =>
    have := q0 (by rw [ln]; rfl)
    subst this
    subst t0
    exact ⟨.int _, G, J.kept kp, ⟨_, rfl⟩, qq⟩
  | cons i is =>
    have one : xs.size = 1 := by rw [List.length_cons] at few ln; omega
    obtain ⟨t, ev⟩ := q1 one
    subst ev
    have : numAt xs 0 = i := by
      rw [numAt_eq, hn]
      rfl
    rw [this]
    exact ⟨.int _, G, J.kept kp, ⟨_, rfl⟩, qq⟩
def vMaxD (n : Int) (t : TV) : TV := fun ρ Q => t ρ fun s => ∃ is : List Int, s.asL = some (is.map PyData.int) ∧ is.length ≤ 1 ∧ Q (.v (.int (is.headD n)))
theorem m_maxD {n : Int} {t : TV} {ρ : VL.Env} {Q : SV → Prop} : vMaxD n t ρ Q = t ρ fun s => ∃ is : List Int, s.asL = some (is.map PyData.int) ∧ is.length ≤ 1 ∧ Q (.v (.int (is.headD n))) := (Eq.refl _).trans (Eq.refl _)
theorem ve_maxD {n : Int} {κ1 : Nat} {e a : Expr} {t : TV} (h : ∀ te, PE X a te → PE X e (tCKw (rMaxD X.K n) (tCons te tNil) (tCons (tC (.int n)) tNil))) (ha : VE X a t κ1) : VE X e (vMaxD n t) κ1 := by
  obtain ⟨te, pe, g⟩ := ha
  refine ⟨_, h te pe, fun B F H σ ρ Q R er bq t k => ?_⟩
  refine g B F H σ ρ _ _ er (by omega) t fun s u F1 H1 cq ⟨is, e1, hl, q⟩ x => ?_
  obtain ⟨p, xs, e2, sq, r⟩ := asL_sq x.sr e1
  subst e2
  have e3 := data_ints r
  subst e3
  exact ⟨p, is, rfl, rfl, sq, hl, k _ _ _ _ (by omega) q ((PRes.same x.dm (.int _)).res x.toExt fun _ _ z => nomatch z)⟩
end
/-! ### <= of texts, too -/
section
variable {X : Cx} {K : PySem.W.Frag}
def rLeS : R2 := fun x y G Q => ∃ i j : Str, x = .str i ∧ y = .str j ∧ Q (.bl (!decide (j.cps.toList < i.cps.toList))) G
theorem op_leS : OpR X (compareOp .LtE) rLeS := by
  intro pn st sg G x y v u Q J rx ry hh
  obtain ⟨i, j, e1, e2, q⟩ := hh
  subst e1 e2
  obtain ⟨t, e3⟩ := rx
  obtain ⟨t', e4⟩ := ry
  subst e3 e4
  exact PySem.P.le_str (fin_bl J q rfl)
abbrev rLeAll : R2 := r2or (rI0 fun i j => .bl (decide (i ≤ j))) rLeS
theorem op_leAll : OpR X (compareOp .LtE) rLeAll := op_le.or op_leS
def fLeD : FB := fun a b Q => match a, b with
  | .v (.int i), .v (.int j) => Q (.v (.bool (decide (i ≤ j))))
  | .v (.str i), .v (.str j) => Q (.v (.bool (!decide (j.cps.toList < i.cps.toList))))
  | _, _ => False
theorem m_leI {i j : Int} {Q : SV → Prop} : fLeD (.v (.int i)) (.v (.int j)) Q = Q (.v (.bool (decide (i ≤ j)))) := (Eq.refl _).trans (Eq.refl _)
theorem m_leS {i j : Str} {Q : SV → Prop} : fLeD (.v (.str i)) (.v (.str j)) Q = Q (.v (.bool (!decide (j.cps.toList < i.cps.toList)))) := (Eq.refl _).trans (Eq.refl _)
theorem ops_leD : OpS K rLeAll fLeD := by
  intro F H u w a b Q R fo ra rb q k
  unfold fLeD at q
  split at q
  · rw [int_of ra, int_of rb]
    exact .inl ⟨_, _, rfl, rfl, k _ _ F H q (fun _ _ z => nomatch z) (.same fo (.bl _))⟩
  · rw [str_of ra, str_of rb]
    exact .inr ⟨_, _, rfl, rfl, k _ _ F H q (fun _ _ z => nomatch z) (.same fo (.bl _))⟩
  · exact q.elim
end
end VL
namespace VL
open PySem PySem.Spec PyProof.Rows L2 VG
section
variable {X : Cx} {i : Nat}
/-- feed[j], j one of 1, 2, 3: any int -/
def vTapI (i j : Nat) : TV := fun ρ Q => ∃ (a : Addr) (ns : List Int), ρ[i]? = some (.cell a ⟨true, ns⟩) ∧ ∀ x : Int, (j = 3 → 0 ≤ x ∧ x ≤ 1099511627776) → Q (.v (.int x))
theorem ve_tapI {e c : Expr} {pos : Pos} {j : Nat} (hj : j = 1 ∨ j = 2 ∨ j = 3) (he : PE X e (tVar i)) (hc : PE X c (tC (.int (j : Nat)))) (hp : PlainIx c) : VE X (.Subscript e c pos) (vTapI i j) 0 := by
  refine ⟨_, pe_ix ix_seq he hc hp, fun B F H σ ρ Q R er bq ⟨a, ns, e, q⟩ k => ?_⟩
  obtain ⟨h1, c⟩ := er.cellAt e
  obtain ⟨nf, c', x1, x2, x3, e1, e2, e3, cb⟩ := id c
  have hL : LIM = 1099511627776 := rfl
  have cb3 := cb rfl
  rcases hj with rfl | rfl | rfl
  · exact ⟨.ref a, h1, .inl ⟨a, _, (1 : Nat), .int x1, rfl, rfl, SqL.of e1, rfl, k _ _ F H (by omega) (q x1 (fun z => by omega)) ⟨er.refl, .int _, trivial⟩⟩⟩
  · exact ⟨.ref a, h1, .inl ⟨a, _, (2 : Nat), .int x2, rfl, rfl, SqL.of e1, rfl, k _ _ F H (by omega) (q x2 (fun z => by omega)) ⟨er.refl, .int _, trivial⟩⟩⟩
  · exact ⟨.ref a, h1, .inl ⟨a, _, (3 : Nat), .int x3, rfl, rfl, SqL.of e1, rfl, k _ _ F H (by omega) (q x3 (fun _ => by omega)) ⟨er.refl, .int _, trivial⟩⟩⟩
/-- feed[0]: the list of ints -/
def vTapL (i : Nat) : TV := fun ρ Q => ∃ (a : Addr) (ns : List Int), ρ[i]? = some (.cell a ⟨true, ns⟩) ∧ Q (.v (.list (ns.map .int)))
theorem ve_tapL {e c : Expr} {pos : Pos} (he : PE X e (tVar i)) (hc : PE X c (tC (.int (0 : Nat)))) (hp : PlainIx c) : VE X (.Subscript e c pos) (vTapL i) 0 := by
  refine ⟨_, pe_ix ix_seq he hc hp, fun B F H σ ρ Q R er bq ⟨a, ns, e, q⟩ k => ?_⟩
  obtain ⟨h1, c⟩ := er.cellAt e
  obtain ⟨nf, c', x1, x2, x3, e1, e2, e3, cb⟩ := id c
  exact ⟨.ref a, h1, .inl ⟨a, _, (0 : Nat), .ref c', rfl, rfl, SqL.of e1, rfl, k _ _ F H (by omega) q ⟨er.refl, .lst e2 e3 (RA.ints ns), trivial⟩⟩⟩
/-- feed[3] = feed[3] + 1 -/
def vTapInc (i : Nat) : TVS := fun E ρ => ∃ (a : Addr) (ns : List Int), ρ[i]? = some (.cell a ⟨true, ns⟩) ∧ E.nx ρ
theorem vs_tapInc {st : Stmt} {te : TE} (h : PS X st (sLPut (tVar i) (tC (.int (3 : Nat))) te)) (hf : te = tOp (rI0 fun i j => .int (i + j)) (tOp (rIx X.K) (tVar i) (tC (.int (3 : Nat)))) (tC (.int 1))) : VS X st (vTapInc i) 1 := by
  subst hf
  refine ⟨_, h, fun B F H σ ρ E D er bq ⟨a, ns, e, t⟩ k => ?_⟩
  obtain ⟨h1, c⟩ := er.cellAt e
  obtain ⟨nf, c', a1, a2, a3, e1, e2, e3, cb⟩ := id c
  have hL : LIM = 1099511627776 := rfl
  obtain ⟨n0, n1⟩ := cb rfl
  refine ⟨.ref a, h1, .inl ⟨a, _, (3 : Nat), .int a3, rfl, rfl, SqL.of e1, rfl, ⟨a3, 1, rfl, rfl, ?_⟩⟩⟩
  refine ⟨.ref a, h1, a, _, 3, rfl, e1, rfl, by show 3 < 4; decide, ?_⟩
  exact k.nx ⟨F.fr, F.ck + 1⟩ _ σ ρ (by show F.ck + 1 ≤ _; omega) (er.step (Ext.cellw er e e2 e3 (j := a1) (l := a2) (n := a3 + 1) 1 fun _ => ⟨by omega, by omega⟩)) t
theorem s_tapI {j : Nat} {ρ : VL.Env} {Q : SV → Prop} : vTapI i j ρ Q = ∃ (a : Addr) (ns : List Int), ρ[i]? = some (.cell a ⟨true, ns⟩) ∧ ∀ x : Int, (j = 3 → 0 ≤ x ∧ x ≤ 1099511627776) → Q (.v (.int x)) := rfl
theorem s_tapL {ρ : VL.Env} {Q : SV → Prop} : vTapL i ρ Q = ∃ (a : Addr) (ns : List Int), ρ[i]? = some (.cell a ⟨true, ns⟩) ∧ Q (.v (.list (ns.map .int))) := rfl
theorem s_tapInc {E : VEnds} {ρ : VL.Env} : vTapInc i E ρ = ∃ (a : Addr) (ns : List Int), ρ[i]? = some (.cell a ⟨true, ns⟩) ∧ E.nx ρ := rfl
end
end VL
namespace Own
open PySem PySem.Spec PyProof.Rows L2 VG VL
local macro_rules | `(tactic| walk_at "vl") => `(tactic| simp only [s_callD, s_tapI, s_tapL, s_tapInc, m_sortSet, m_extQ, m_maxD, m_leI, m_leS, m_vtupIx, s_seq, s_next, s_asg, s_asgO2, asgO_own, asgO_odK, asgO_odT, frz_own, frz_odK, frz_odT, hand_odK, hand_odT, hand_fzT, lend_odK, lend_odT, lend_fzT, hands_odK, hands_odT, hands_fzT, taps_odK, taps_odT, taps_fzT, datasIn_odK, m_dnewK, m_dnewT, odK_ex, odT_ex, s_putK, s_putT, keyI_ex, keyS_ex, m_get1, m_get2, isd_bdK, isd_odK, isd_dKD, isd_dct, isd_bdT, isd_odT, isd_fzT, m_gitem, m_gin, s_aug, vint_ex, m_fIsB, m_isi2, m_enum, enT_ex, enL_ex, s_parN, keeps_nil, keeps_v, keeps_own, keeps_odK, keeps_odT, keeps_fzT, keeps_dct, setAll_nil, setAll_cons, m_dictO, s_never, s_ret, s_retN, s_if, s_drop, s_frz2, s_app, s_ext, s_par, s_asgT, s_for, s_cells, s_cellN, s_cellSet, s_feed, s_call, s_callK,
  cell_ex, own_ex, v_ex, pair_ex, one_ex, some_ex, b_ex, g_name, g_tup, g_nil, g_cons, m_ii, m_bin, m_c, m_cb, m_nil, m_cons, m_i1, m_i2, m_test, m_isB, m_isI, m_if, m_and, m_or, m_notT, m_andV, m_orV, m_notV, m_neg, m_tup, m_lst,
  hand_v, hand_own, hand_cell, hand_scr, lend_v, lend_own, lend_cell, lend_scr, hands_nil, hands_v, hands_own, hands_cell, hands_scr, datasIn_nil, datasIn_v, datasIn_own, m_fAbs, m_fMin, m_fMax, m_fGcd, m_fSub, m_fMul, m_fDiv, m_fMod, m_fPow,
  m_fAdd, m_fLt, m_ltI, m_ltS, m_geI, m_chain, m_ord, m_kin, m_kget, str_ex, str_ex2, m_tupR, s_disp, m_dsp, m_pairs0, m_pairs1, m_zip, s_callP, sel_nil, sel_at, s_tap, s_tapUT, s_tapSet, taps_nil, taps_v, taps_own, taps_scr, taps_dct, taps_cell, taps_tap, inE_self, inE_cons, true_or, or_true, m_fLe, m_fGt, m_fGe, m_ixT, m_ixL, m_ixO, m_ixB, m_lenL, m_lenT, m_lenO, m_lenB, m_tupB, m_tupO, m_tupL, m_tupT, m_lstO, m_lstT, m_lstL, m_repr, m_reprO, m_reprB, m_eqS, m_eqI, m_eqB, m_cellsNe, m_isi, asD_v, asD_own, asD_brw, m_revT, asT_v, m_intI, m_intB, m_mulS, m_addS, m_addT, m_addLO, m_addBO, m_addOO, m_addLL, m_addOL, m_addOB, m_some,
  vVar, List.set, List.getElem?_cons_zero, List.getElem?_cons_succ, Option.map_some, List.map_nil, List.map_cons, List.append_nil, List.nil_append, List.cons_append, List.replicate, List.length_cons, List.length_nil, vDef, VL.envOf, decide_eq_true_eq, Bool.false_eq_true, Bool.not_eq_true', decide_eq_false_iff_not, if_true, if_false, Nat.reduceAdd, Nat.reduceSub, Nat.reduceLeDiff, Nat.reduceLT, isT_int_none, isT_int_bool, isT_int_int, isT_int_str, isT_int_list, isT_int_tuple, isT_int_dict, isT_bool_none, isT_bool_bool, isT_bool_int, isT_bool_str, isT_bool_list, isT_bool_tuple, isT_bool_dict, isT_str_none, isT_str_bool, isT_str_int, isT_str_str, isT_str_list, isT_str_tuple, isT_str_dict, isT_list_none, isT_list_bool, isT_list_int, isT_list_str, isT_list_list, isT_list_tuple, isT_list_dict, isT_tuple_none, isT_tuple_bool, isT_tuple_int, isT_tuple_str, isT_tuple_list, isT_tuple_tuple, isT_tuple_dict, m_slM, slM_str, slM_tup, slM_lst, slM_own, slM_brw, hand_dct, lend_dct, hands_dct, m_dgetS, m_dgetI, m_dinS, m_dinI, m_listR, s_parO, parO_ex, true_and, and_true])
/-! ### the text -/
abbrev PW := PySem.Challenge.pw_tenanthall_k40_moves_broken
def topS (i : Nat) : Stmt := PW.main.body.getD i (.Pass ⟨0, 0, 0, 0⟩)
abbrev s_is_whole : Stmt := topS 9
abbrev N_is_whole : List Str := ["thing"]
theorem sc_is_whole : FnScope N_is_whole ["thing"] (defScope s_is_whole) := ⟨rfl, rfl, rfl, by decide +kernel, rfl, by decide +kernel, by decide +kernel⟩
abbrev s_is_number : Stmt := topS 10
abbrev N_is_number : List Str := ["thing"]
theorem sc_is_number : FnScope N_is_number ["thing"] (defScope s_is_number) := ⟨rfl, rfl, rfl, by decide +kernel, rfl, by decide +kernel, by decide +kernel⟩
abbrev s_is_from_one : Stmt := topS 11
abbrev N_is_from_one : List Str := ["thing"]
theorem sc_is_from_one : FnScope N_is_from_one ["thing"] (defScope s_is_from_one) := ⟨rfl, rfl, rfl, by decide +kernel, rfl, by decide +kernel, by decide +kernel⟩
abbrev s_is_word : Stmt := topS 12
abbrev N_is_word : List Str := ["thing", "sign"]
theorem sc_is_word : FnScope N_is_word ["thing"] (defScope s_is_word) := ⟨rfl, rfl, rfl, by decide +kernel, rfl, by decide +kernel, by decide +kernel⟩
abbrev s_is_said_text : Stmt := topS 13
abbrev N_is_said_text : List Str := ["thing", "numbers", "sign", "number"]
theorem sc_is_said_text : FnScope N_is_said_text ["thing"] (defScope s_is_said_text) := ⟨rfl, rfl, rfl, by decide +kernel, rfl, by decide +kernel, by decide +kernel⟩
abbrev s_is_tuple_of : Stmt := topS 14
abbrev N_is_tuple_of : List Str := ["thing", "many"]
theorem sc_is_tuple_of : FnScope N_is_tuple_of ["thing", "many"] (defScope s_is_tuple_of) := ⟨rfl, rfl, rfl, by decide +kernel, rfl, by decide +kernel, by decide +kernel⟩
abbrev s_is_said : Stmt := topS 15
abbrev N_is_said : List Str := ["thing"]
theorem sc_is_said : FnScope N_is_said ["thing"] (defScope s_is_said) := ⟨rfl, rfl, rfl, by decide +kernel, rfl, by decide +kernel, by decide +kernel⟩
abbrev s_is_link : Stmt := topS 16
abbrev N_is_link : List Str := ["thing"]
theorem sc_is_link : FnScope N_is_link ["thing"] (defScope s_is_link) := ⟨rfl, rfl, rfl, by decide +kernel, rfl, by decide +kernel, by decide +kernel⟩
abbrev s_is_value : Stmt := topS 17
abbrev N_is_value : List Str := ["thing"]
theorem sc_is_value : FnScope N_is_value ["thing"] (defScope s_is_value) := ⟨rfl, rfl, rfl, by decide +kernel, rfl, by decide +kernel, by decide +kernel⟩
abbrev s_are_worths : Stmt := topS 18
abbrev N_are_worths : List Str := ["thing", "part"]
theorem sc_are_worths : FnScope N_are_worths ["thing"] (defScope s_are_worths) := ⟨rfl, rfl, rfl, by decide +kernel, rfl, by decide +kernel, by decide +kernel⟩
abbrev s_is_cond : Stmt := topS 19
abbrev N_is_cond : List Str := ["thing"]
theorem sc_is_cond : FnScope N_is_cond ["thing"] (defScope s_is_cond) := ⟨rfl, rfl, rfl, by decide +kernel, rfl, by decide +kernel, by decide +kernel⟩
abbrev s_are_conds : Stmt := topS 20
abbrev N_are_conds : List Str := ["thing", "part"]
theorem sc_are_conds : FnScope N_are_conds ["thing"] (defScope s_are_conds) := ⟨rfl, rfl, rfl, by decide +kernel, rfl, by decide +kernel, by decide +kernel⟩
abbrev s_fits : Stmt := topS 22
abbrev N_fits : List Str := ["kind", "thing", "check"]
theorem sc_fits : FnScope N_fits ["kind", "thing"] (defScope s_fits) := ⟨rfl, rfl, rfl, by decide +kernel, rfl, by decide +kernel, by decide +kernel⟩
abbrev s_are_parts : Stmt := topS 23
abbrev N_are_parts : List Str := ["things", "kinds", "kind", "part"]
theorem sc_are_parts : FnScope N_are_parts ["things", "kinds"] (defScope s_are_parts) := ⟨rfl, rfl, rfl, by decide +kernel, rfl, by decide +kernel, by decide +kernel⟩
abbrev s_begins_with_text : Stmt := topS 24
abbrev N_begins_with_text : List Str := ["thing"]
theorem sc_begins_with_text : FnScope N_begins_with_text ["thing"] (defScope s_begins_with_text) := ⟨rfl, rfl, rfl, by decide +kernel, rfl, by decide +kernel, by decide +kernel⟩
abbrev s_is_ask : Stmt := topS 25
abbrev N_is_ask : List Str := ["thing"]
theorem sc_is_ask : FnScope N_is_ask ["thing"] (defScope s_is_ask) := ⟨rfl, rfl, rfl, by decide +kernel, rfl, by decide +kernel, by decide +kernel⟩
abbrev s_is_refusal : Stmt := topS 26
abbrev N_is_refusal : List Str := ["told"]
theorem sc_is_refusal : FnScope N_is_refusal ["told"] (defScope s_is_refusal) := ⟨rfl, rfl, rfl, by decide +kernel, rfl, by decide +kernel, by decide +kernel⟩
abbrev s_tables_of : Stmt := topS 28
abbrev N_tables_of : List Str := ["store", "entry"]
theorem sc_tables_of : FnScope N_tables_of ["store"] (defScope s_tables_of) := ⟨rfl, rfl, rfl, by decide +kernel, rfl, by decide +kernel, by decide +kernel⟩
abbrev s_has_table : Stmt := topS 29
abbrev N_has_table : List Str := ["store", "table"]
theorem sc_has_table : FnScope N_has_table ["store", "table"] (defScope s_has_table) := ⟨rfl, rfl, rfl, by decide +kernel, rfl, by decide +kernel, by decide +kernel⟩
abbrev s_table_in : Stmt := topS 30
abbrev N_table_in : List Str := ["store", "table", "entry"]
theorem sc_table_in : FnScope N_table_in ["store", "table"] (defScope s_table_in) := ⟨rfl, rfl, rfl, by decide +kernel, rfl, by decide +kernel, by decide +kernel⟩
abbrev s_rows_of : Stmt := topS 31
abbrev N_rows_of : List Str := ["store", "table"]
theorem sc_rows_of : FnScope N_rows_of ["store", "table"] (defScope s_rows_of) := ⟨rfl, rfl, rfl, by decide +kernel, rfl, by decide +kernel, by decide +kernel⟩
abbrev s_row_of : Stmt := topS 32
abbrev N_row_of : List Str := ["store", "table", "id_told", "row"]
theorem sc_row_of : FnScope N_row_of ["store", "table", "id_told"] (defScope s_row_of) := ⟨rfl, rfl, rfl, by decide +kernel, rfl, by decide +kernel, by decide +kernel⟩
abbrev s_with_table : Stmt := topS 33
abbrev N_with_table : List Str := ["store", "entry", "other"]
theorem sc_with_table : FnScope N_with_table ["store", "entry"] (defScope s_with_table) := ⟨rfl, rfl, rfl, by decide +kernel, rfl, by decide +kernel, by decide +kernel⟩
abbrev s_row_turned : Stmt := topS 34
abbrev N_row_turned : List Str := ["row", "k", "worth", "number", "land", "born", "worths"]
theorem sc_row_turned : FnScope N_row_turned ["row", "k", "worth"] (defScope s_row_turned) := ⟨rfl, rfl, rfl, by decide +kernel, rfl, by decide +kernel, by decide +kernel⟩
abbrev s_link_at : Stmt := topS 35
abbrev N_link_at : List Str := ["row", "k", "worths"]
theorem sc_link_at : FnScope N_link_at ["row", "k"] (defScope s_link_at) := ⟨rfl, rfl, rfl, by decide +kernel, rfl, by decide +kernel, by decide +kernel⟩
abbrev s_rule_of : Stmt := topS 37
abbrev N_rule_of : List Str := ["rules", "word", "land", "rule"]
theorem sc_rule_of : FnScope N_rule_of ["rules", "word", "land"] (defScope s_rule_of) := ⟨rfl, rfl, rfl, by decide +kernel, rfl, by decide +kernel, by decide +kernel⟩
abbrev s_is_kept : Stmt := topS 38
abbrev N_is_kept : List Str := ["row", "rules", "tick", "kept"]
theorem sc_is_kept : FnScope N_is_kept ["row", "rules", "tick"] (defScope s_is_kept) := ⟨rfl, rfl, rfl, by decide +kernel, rfl, by decide +kernel, by decide +kernel⟩
abbrev s_is_stray : Stmt := topS 39
abbrev N_is_stray : List Str := ["row", "rules", "land"]
theorem sc_is_stray : FnScope N_is_stray ["row", "rules", "land"] (defScope s_is_stray) := ⟨rfl, rfl, rfl, by decide +kernel, rfl, by decide +kernel, by decide +kernel⟩
abbrev s_broken_by : Stmt := topS 41
abbrev N_broken_by : List Str := ["deed", "answer", "land", "rules", "row"]
theorem sc_broken_by : FnScope N_broken_by ["deed", "answer", "land", "rules"] (defScope s_broken_by) := ⟨rfl, rfl, rfl, by decide +kernel, rfl, by decide +kernel, by decide +kernel⟩
abbrev s_same : Stmt := topS 43
abbrev N_same : List Str := ["one", "other"]
theorem sc_same : FnScope N_same ["one", "other"] (defScope s_same) := ⟨rfl, rfl, rfl, by decide +kernel, rfl, by decide +kernel, by decide +kernel⟩
abbrev s_are_same : Stmt := topS 44
abbrev N_are_same : List Str := ["ones", "others", "one", "other"]
theorem sc_are_same : FnScope N_are_same ["ones", "others"] (defScope s_are_same) := ⟨rfl, rfl, rfl, by decide +kernel, rfl, by decide +kernel, by decide +kernel⟩
abbrev s_meets_cond : Stmt := topS 46
abbrev N_meets_cond : List Str := ["row", "cond", "worths", "k", "sign", "value"]
theorem sc_meets_cond : FnScope N_meets_cond ["row", "cond"] (defScope s_meets_cond) := ⟨rfl, rfl, rfl, by decide +kernel, rfl, by decide +kernel, by decide +kernel⟩
abbrev s_meets : Stmt := topS 47
abbrev N_meets : List Str := ["row", "conds", "cond"]
theorem sc_meets : FnScope N_meets ["row", "conds"] (defScope s_meets) := ⟨rfl, rfl, rfl, by decide +kernel, rfl, by decide +kernel, by decide +kernel⟩
abbrev s_looks : Stmt := topS 49
abbrev N_looks : List Str := ["job"]
theorem sc_looks : FnScope N_looks ["job"] (defScope s_looks) := ⟨rfl, rfl, rfl, by decide +kernel, rfl, by decide +kernel, by decide +kernel⟩
abbrev s_conds_of : Stmt := topS 50
abbrev N_conds_of : List Str := ["ask"]
theorem sc_conds_of : FnScope N_conds_of ["ask"] (defScope s_conds_of) := ⟨rfl, rfl, rfl, by decide +kernel, rfl, by decide +kernel, by decide +kernel⟩
abbrev s_done_job : Stmt := topS 52
abbrev N_done_job : List Str := ["store", "job", "tick", "land", "rules", "word"]
theorem sc_done_job : FnScope N_done_job ["store", "job", "tick", "land", "rules"] (defScope s_done_job) := ⟨rfl, rfl, rfl, by decide +kernel, rfl, by decide +kernel, by decide +kernel⟩
abbrev s_refusal_of : Stmt := topS 53
abbrev N_refusal_of : List Str := ["store", "job", "tick", "land", "rules", "row", "word", "table"]
theorem sc_refusal_of : FnScope N_refusal_of ["store", "job", "tick", "land", "rules"] (defScope s_refusal_of) := ⟨rfl, rfl, rfl, by decide +kernel, rfl, by decide +kernel, by decide +kernel⟩
abbrev s_has_worth : Stmt := topS 54
abbrev N_has_worth : List Str := ["row", "job", "word", "k", "worths"]
theorem sc_has_worth : FnScope N_has_worth ["row", "job"] (defScope s_has_worth) := ⟨rfl, rfl, rfl, by decide +kernel, rfl, by decide +kernel, by decide +kernel⟩
abbrev s_row_linked : Stmt := topS 55
abbrev N_row_linked : List Str := ["store", "row", "k", "table", "number"]
theorem sc_row_linked : FnScope N_row_linked ["store", "row", "k"] (defScope s_row_linked) := ⟨rfl, rfl, rfl, by decide +kernel, rfl, by decide +kernel, by decide +kernel⟩
abbrev s_row_put : Stmt := topS 56
abbrev N_row_put : List Str := ["store", "deed", "tick"]
theorem sc_row_put : FnScope N_row_put ["store", "deed", "tick"] (defScope s_row_put) := ⟨rfl, rfl, rfl, by decide +kernel, rfl, by decide +kernel, by decide +kernel⟩
abbrev s_put_done : Stmt := topS 57
abbrev N_put_done : List Str := ["store", "deed", "tick", "table", "after", "rows", "indexes"]
theorem sc_put_done : FnScope N_put_done ["store", "deed", "tick"] (defScope s_put_done) := ⟨rfl, rfl, rfl, by decide +kernel, rfl, by decide +kernel, by decide +kernel⟩
abbrev s_index_done : Stmt := topS 58
abbrev N_index_done : List Str := ["store", "deed", "table", "after", "rows", "indexes"]
theorem sc_index_done : FnScope N_index_done ["store", "deed"] (defScope s_index_done) := ⟨rfl, rfl, rfl, by decide +kernel, rfl, by decide +kernel, by decide +kernel⟩
abbrev s_row_done : Stmt := topS 59
abbrev N_row_done : List Str := ["store", "deed", "row", "at", "newer", "table", "after", "rows", "indexes", "k", "told"]
theorem sc_row_done : FnScope N_row_done ["store", "deed"] (defScope s_row_done) := ⟨rfl, rfl, rfl, by decide +kernel, rfl, by decide +kernel, by decide +kernel⟩
abbrev s_answer_of : Stmt := topS 60
abbrev N_answer_of : List Str := ["store", "ask", "row"]
theorem sc_answer_of : FnScope N_answer_of ["store", "ask"] (defScope s_answer_of) := ⟨rfl, rfl, rfl, by decide +kernel, rfl, by decide +kernel, by decide +kernel⟩
abbrev s_answer_by : Stmt := topS 61
abbrev N_answer_by : List Str := ["rows", "ask", "found", "k", "row"]
theorem sc_answer_by : FnScope N_answer_by ["rows", "ask"] (defScope s_answer_by) := ⟨rfl, rfl, rfl, by decide +kernel, rfl, by decide +kernel, by decide +kernel⟩
abbrev s_law_tape : Stmt := topS 63
abbrev N_law_tape : List Str := ["_law_script"]
theorem sc_law_tape : FnScope N_law_tape ["_law_script"] (defScope s_law_tape) := ⟨rfl, rfl, rfl, by decide +kernel, rfl, by decide +kernel, by decide +kernel⟩
abbrev s_law_pick : Stmt := topS 64
abbrev N_law_pick : List Str := ["_law_tape_here", "_law_lots", "_law_at", "_law_cell", "_law_mixed", "_law_found"]
theorem sc_law_pick : FnScope N_law_pick ["_law_tape_here", "_law_lots"] (defScope s_law_pick) := ⟨rfl, rfl, rfl, by decide +kernel, rfl, by decide +kernel, by decide +kernel⟩
abbrev s_law_any : Stmt := topS 65
abbrev N_law_any : List Str := ["_law_tape_here", "_law_lot"]
theorem sc_law_any : FnScope N_law_any ["_law_tape_here", "_law_lot"] (defScope s_law_any) := ⟨rfl, rfl, rfl, by decide +kernel, rfl, by decide +kernel, by decide +kernel⟩
abbrev s_law_rules : Stmt := topS 66
abbrev N_law_rules : List Str := ["_law_tape_here", "_law_words", "_law_found", "_law_word", "_law_spot"]
theorem sc_law_rules : FnScope N_law_rules ["_law_tape_here", "_law_words"] (defScope s_law_rules) := ⟨rfl, rfl, rfl, by decide +kernel, rfl, by decide +kernel, by decide +kernel⟩
abbrev s_law_value : Stmt := topS 67
abbrev N_law_value : List Str := ["_law_tape_here", "_law_way"]
theorem sc_law_value : FnScope N_law_value ["_law_tape_here"] (defScope s_law_value) := ⟨rfl, rfl, rfl, by decide +kernel, rfl, by decide +kernel, by decide +kernel⟩
abbrev s_law_deed : Stmt := topS 68
abbrev N_law_deed : List Str := ["_law_tape_here", "_law_store", "_law_table", "_law_near", "_law_way", "_law_row_id", "_law_worths", "_law_row", "_law_k"]
theorem sc_law_deed : FnScope N_law_deed ["_law_tape_here", "_law_store"] (defScope s_law_deed) := ⟨rfl, rfl, rfl, by decide +kernel, rfl, by decide +kernel, by decide +kernel⟩
abbrev s_law_is_stray : Stmt := topS 69
abbrev N_law_is_stray : List Str := ["_law_spot", "_law_few", "_law_yonder"]
theorem sc_law_is_stray : FnScope N_law_is_stray ["_law_spot", "_law_few", "_law_yonder"] (defScope s_law_is_stray) := ⟨rfl, rfl, rfl, by decide +kernel, rfl, by decide +kernel, by decide +kernel⟩
abbrev s_law_breaks : Stmt := topS 70
abbrev N_law_breaks : List Str := ["_law_deed_here", "_law_told", "_law_few", "_law_yonder"]
theorem sc_law_breaks : FnScope N_law_breaks ["_law_deed_here", "_law_told", "_law_few", "_law_yonder"] (defScope s_law_breaks) := ⟨rfl, rfl, rfl, by decide +kernel, rfl, by decide +kernel, by decide +kernel⟩
abbrev s_law_is_done : Stmt := topS 71
abbrev N_law_is_done : List Str := ["_law_deed_here", "_law_told"]
theorem sc_law_is_done : FnScope N_law_is_done ["_law_deed_here", "_law_told"] (defScope s_law_is_done) := ⟨rfl, rfl, rfl, by decide +kernel, rfl, by decide +kernel, by decide +kernel⟩
abbrev s_law : Stmt := topS 72
abbrev N_law : List Str := ["_law_script", "_law_tape_here", "_law_turn", "_law_few", "_law_store", "_law_lap", "_law_deed_here", "_law_told", "_law_home", "_law_stayed", "_law_due"]
theorem sc_law : FnScope N_law ["_law_script"] (defScope s_law) := ⟨rfl, rfl, rfl, by decide +kernel, rfl, by decide +kernel, by decide +kernel⟩
structure Txt (K : PySem.W.Frag) (mg : Str → Option Value) (w : World) : Type where
  g_SMALL_LETTERS : ∃ t, mg "SMALL_LETTERS" = some (.str "abcdefghijklmnopqrstuvwxyz" t)
  g_MOST_LETTERS : ∃ t, mg "MOST_LETTERS" = some (.int (8) t)
  g_MOST_SIGNS : ∃ t, mg "MOST_SIGNS" = some (.int (12) t)
  g_FIRST_SIGN : ∃ t, mg "FIRST_SIGN" = some (.int (32) t)
  g_LAST_SIGN : ∃ t, mg "LAST_SIGN" = some (.int (126) t)
  g_BARRED_SIGN : ∃ t, mg "BARRED_SIGN" = some (.int (37) t)
  a_SIGNS : Addr
  g_SIGNS : mg "SIGNS" = some (.ref a_SIGNS)
  r_SIGNS : ∀ F H, R1 K F H (.ref a_SIGNS) (PyData.tuple [(PyData.str "="), (PyData.str "<"), (PyData.str ">")])
  d_ASKS : Addr
  g_ASKS : mg "ASKS" = some (.ref d_ASKS)
  a_ASKS_0 : Addr
  r_ASKS_0 : ∀ F H, R1 K F H (.ref a_ASKS_0) (PyData.tuple [(PyData.str "table"), (PyData.str "id")])
  a_ASKS_1 : Addr
  r_ASKS_1 : ∀ F H, R1 K F H (.ref a_ASKS_1) (PyData.tuple [(PyData.str "table"), (PyData.str "conds"), (PyData.str "most")])
  a_ASKS_2 : Addr
  r_ASKS_2 : ∀ F H, R1 K F H (.ref a_ASKS_2) (PyData.tuple [(PyData.str "table"), (PyData.str "conds")])
  a_ASKS_3 : Addr
  r_ASKS_3 : ∀ F H, R1 K F H (.ref a_ASKS_3) (PyData.tuple [(PyData.str "table"), (PyData.str "k"), (PyData.str "conds")])
  a_ASKS_4 : Addr
  r_ASKS_4 : ∀ F H, R1 K F H (.ref a_ASKS_4) (PyData.tuple [(PyData.str "table"), (PyData.str "id"), (PyData.str "k")])
  kd_ASKS : KD K w d_ASKS [("get", .ref a_ASKS_0), ("rows", .ref a_ASKS_1), ("count", .ref a_ASKS_2), ("sum", .ref a_ASKS_3), ("follow", .ref a_ASKS_4)]
  b_all : mg "all" = none
  b_bool : mg "bool" = none
  b_int : mg "int" = none
  b_isinstance : mg "isinstance" = none
  b_len : mg "len" = none
  b_list : mg "list" = none
  b_max : mg "max" = none
  b_ord : mg "ord" = none
  b_range : mg "range" = none
  b_repr : mg "repr" = none
  b_set : mg "set" = none
  b_sorted : mg "sorted" = none
  b_str : mg "str" = none
  b_sum : mg "sum" = none
  b_tuple : mg "tuple" = none
  b_zip : mg "zip" = none
  a_dv_broken_by_rules : Addr
  r_dv_broken_by_rules : ∀ F H, R1 K F H (.ref a_dv_broken_by_rules) (PyData.tuple [])
  a_dv_done_job_rules : Addr
  r_dv_done_job_rules : ∀ F H, R1 K F H (.ref a_dv_done_job_rules) (PyData.tuple [])
  a_is_whole : Addr
  fd_is_whole : FuncData
  g_is_whole : mg "is_whole" = some (.ref a_is_whole)
  F_is_whole : FunD K "is_whole" "is_whole" (defArgs s_is_whole) (defBody s_is_whole) (defScope s_is_whole) [] [] a_is_whole fd_is_whole
  a_is_number : Addr
  fd_is_number : FuncData
  g_is_number : mg "is_number" = some (.ref a_is_number)
  F_is_number : FunD K "is_number" "is_number" (defArgs s_is_number) (defBody s_is_number) (defScope s_is_number) [] [] a_is_number fd_is_number
  a_is_from_one : Addr
  fd_is_from_one : FuncData
  g_is_from_one : mg "is_from_one" = some (.ref a_is_from_one)
  F_is_from_one : FunD K "is_from_one" "is_from_one" (defArgs s_is_from_one) (defBody s_is_from_one) (defScope s_is_from_one) [] [] a_is_from_one fd_is_from_one
  a_is_word : Addr
  fd_is_word : FuncData
  g_is_word : mg "is_word" = some (.ref a_is_word)
  F_is_word : FunD K "is_word" "is_word" (defArgs s_is_word) (defBody s_is_word) (defScope s_is_word) [] [] a_is_word fd_is_word
  a_is_said_text : Addr
  fd_is_said_text : FuncData
  g_is_said_text : mg "is_said_text" = some (.ref a_is_said_text)
  F_is_said_text : FunD K "is_said_text" "is_said_text" (defArgs s_is_said_text) (defBody s_is_said_text) (defScope s_is_said_text) [] [] a_is_said_text fd_is_said_text
  a_is_tuple_of : Addr
  fd_is_tuple_of : FuncData
  g_is_tuple_of : mg "is_tuple_of" = some (.ref a_is_tuple_of)
  F_is_tuple_of : FunD K "is_tuple_of" "is_tuple_of" (defArgs s_is_tuple_of) (defBody s_is_tuple_of) (defScope s_is_tuple_of) [] [] a_is_tuple_of fd_is_tuple_of
  a_is_said : Addr
  fd_is_said : FuncData
  g_is_said : mg "is_said" = some (.ref a_is_said)
  F_is_said : FunD K "is_said" "is_said" (defArgs s_is_said) (defBody s_is_said) (defScope s_is_said) [] [] a_is_said fd_is_said
  a_is_link : Addr
  fd_is_link : FuncData
  g_is_link : mg "is_link" = some (.ref a_is_link)
  F_is_link : FunD K "is_link" "is_link" (defArgs s_is_link) (defBody s_is_link) (defScope s_is_link) [] [] a_is_link fd_is_link
  a_is_value : Addr
  fd_is_value : FuncData
  g_is_value : mg "is_value" = some (.ref a_is_value)
  F_is_value : FunD K "is_value" "is_value" (defArgs s_is_value) (defBody s_is_value) (defScope s_is_value) [] [] a_is_value fd_is_value
  a_are_worths : Addr
  fd_are_worths : FuncData
  g_are_worths : mg "are_worths" = some (.ref a_are_worths)
  F_are_worths : FunD K "are_worths" "are_worths" (defArgs s_are_worths) (defBody s_are_worths) (defScope s_are_worths) [] [] a_are_worths fd_are_worths
  a_is_cond : Addr
  fd_is_cond : FuncData
  g_is_cond : mg "is_cond" = some (.ref a_is_cond)
  F_is_cond : FunD K "is_cond" "is_cond" (defArgs s_is_cond) (defBody s_is_cond) (defScope s_is_cond) [] [] a_is_cond fd_is_cond
  a_are_conds : Addr
  fd_are_conds : FuncData
  g_are_conds : mg "are_conds" = some (.ref a_are_conds)
  F_are_conds : FunD K "are_conds" "are_conds" (defArgs s_are_conds) (defBody s_are_conds) (defScope s_are_conds) [] [] a_are_conds fd_are_conds
  a_fits : Addr
  fd_fits : FuncData
  g_fits : mg "fits" = some (.ref a_fits)
  F_fits : FunD K "fits" "fits" (defArgs s_fits) (defBody s_fits) (defScope s_fits) [] [] a_fits fd_fits
  a_are_parts : Addr
  fd_are_parts : FuncData
  g_are_parts : mg "are_parts" = some (.ref a_are_parts)
  F_are_parts : FunD K "are_parts" "are_parts" (defArgs s_are_parts) (defBody s_are_parts) (defScope s_are_parts) [] [] a_are_parts fd_are_parts
  a_begins_with_text : Addr
  fd_begins_with_text : FuncData
  g_begins_with_text : mg "begins_with_text" = some (.ref a_begins_with_text)
  F_begins_with_text : FunD K "begins_with_text" "begins_with_text" (defArgs s_begins_with_text) (defBody s_begins_with_text) (defScope s_begins_with_text) [] [] a_begins_with_text fd_begins_with_text
  a_is_ask : Addr
  fd_is_ask : FuncData
  g_is_ask : mg "is_ask" = some (.ref a_is_ask)
  F_is_ask : FunD K "is_ask" "is_ask" (defArgs s_is_ask) (defBody s_is_ask) (defScope s_is_ask) [] [] a_is_ask fd_is_ask
  a_is_refusal : Addr
  fd_is_refusal : FuncData
  g_is_refusal : mg "is_refusal" = some (.ref a_is_refusal)
  F_is_refusal : FunD K "is_refusal" "is_refusal" (defArgs s_is_refusal) (defBody s_is_refusal) (defScope s_is_refusal) [] [] a_is_refusal fd_is_refusal
  a_tables_of : Addr
  fd_tables_of : FuncData
  g_tables_of : mg "tables_of" = some (.ref a_tables_of)
  F_tables_of : FunD K "tables_of" "tables_of" (defArgs s_tables_of) (defBody s_tables_of) (defScope s_tables_of) [] [] a_tables_of fd_tables_of
  a_has_table : Addr
  fd_has_table : FuncData
  g_has_table : mg "has_table" = some (.ref a_has_table)
  F_has_table : FunD K "has_table" "has_table" (defArgs s_has_table) (defBody s_has_table) (defScope s_has_table) [] [] a_has_table fd_has_table
  a_table_in : Addr
  fd_table_in : FuncData
  g_table_in : mg "table_in" = some (.ref a_table_in)
  F_table_in : FunD K "table_in" "table_in" (defArgs s_table_in) (defBody s_table_in) (defScope s_table_in) [] [] a_table_in fd_table_in
  a_rows_of : Addr
  fd_rows_of : FuncData
  g_rows_of : mg "rows_of" = some (.ref a_rows_of)
  F_rows_of : FunD K "rows_of" "rows_of" (defArgs s_rows_of) (defBody s_rows_of) (defScope s_rows_of) [] [] a_rows_of fd_rows_of
  a_row_of : Addr
  fd_row_of : FuncData
  g_row_of : mg "row_of" = some (.ref a_row_of)
  F_row_of : FunD K "row_of" "row_of" (defArgs s_row_of) (defBody s_row_of) (defScope s_row_of) [] [] a_row_of fd_row_of
  a_with_table : Addr
  fd_with_table : FuncData
  g_with_table : mg "with_table" = some (.ref a_with_table)
  F_with_table : FunD K "with_table" "with_table" (defArgs s_with_table) (defBody s_with_table) (defScope s_with_table) [] [] a_with_table fd_with_table
  a_row_turned : Addr
  fd_row_turned : FuncData
  g_row_turned : mg "row_turned" = some (.ref a_row_turned)
  F_row_turned : FunD K "row_turned" "row_turned" (defArgs s_row_turned) (defBody s_row_turned) (defScope s_row_turned) [] [] a_row_turned fd_row_turned
  a_link_at : Addr
  fd_link_at : FuncData
  g_link_at : mg "link_at" = some (.ref a_link_at)
  F_link_at : FunD K "link_at" "link_at" (defArgs s_link_at) (defBody s_link_at) (defScope s_link_at) [] [] a_link_at fd_link_at
  a_rule_of : Addr
  fd_rule_of : FuncData
  g_rule_of : mg "rule_of" = some (.ref a_rule_of)
  F_rule_of : FunD K "rule_of" "rule_of" (defArgs s_rule_of) (defBody s_rule_of) (defScope s_rule_of) [] [] a_rule_of fd_rule_of
  a_is_kept : Addr
  fd_is_kept : FuncData
  g_is_kept : mg "is_kept" = some (.ref a_is_kept)
  F_is_kept : FunD K "is_kept" "is_kept" (defArgs s_is_kept) (defBody s_is_kept) (defScope s_is_kept) [] [] a_is_kept fd_is_kept
  a_is_stray : Addr
  fd_is_stray : FuncData
  g_is_stray : mg "is_stray" = some (.ref a_is_stray)
  F_is_stray : FunD K "is_stray" "is_stray" (defArgs s_is_stray) (defBody s_is_stray) (defScope s_is_stray) [] [] a_is_stray fd_is_stray
  a_broken_by : Addr
  fd_broken_by : FuncData
  g_broken_by : mg "broken_by" = some (.ref a_broken_by)
  F_broken_by : FunD K "broken_by" "broken_by" (defArgs s_broken_by) (defBody s_broken_by) (defScope s_broken_by) [] [("rules", .ref a_dv_broken_by_rules)] a_broken_by fd_broken_by
  a_same : Addr
  fd_same : FuncData
  g_same : mg "same" = some (.ref a_same)
  F_same : FunD K "same" "same" (defArgs s_same) (defBody s_same) (defScope s_same) [] [] a_same fd_same
  a_are_same : Addr
  fd_are_same : FuncData
  g_are_same : mg "are_same" = some (.ref a_are_same)
  F_are_same : FunD K "are_same" "are_same" (defArgs s_are_same) (defBody s_are_same) (defScope s_are_same) [] [] a_are_same fd_are_same
  a_meets_cond : Addr
  fd_meets_cond : FuncData
  g_meets_cond : mg "meets_cond" = some (.ref a_meets_cond)
  F_meets_cond : FunD K "meets_cond" "meets_cond" (defArgs s_meets_cond) (defBody s_meets_cond) (defScope s_meets_cond) [] [] a_meets_cond fd_meets_cond
  a_meets : Addr
  fd_meets : FuncData
  g_meets : mg "meets" = some (.ref a_meets)
  F_meets : FunD K "meets" "meets" (defArgs s_meets) (defBody s_meets) (defScope s_meets) [] [] a_meets fd_meets
  a_looks : Addr
  fd_looks : FuncData
  g_looks : mg "looks" = some (.ref a_looks)
  F_looks : FunD K "looks" "looks" (defArgs s_looks) (defBody s_looks) (defScope s_looks) [] [] a_looks fd_looks
  a_conds_of : Addr
  fd_conds_of : FuncData
  g_conds_of : mg "conds_of" = some (.ref a_conds_of)
  F_conds_of : FunD K "conds_of" "conds_of" (defArgs s_conds_of) (defBody s_conds_of) (defScope s_conds_of) [] [] a_conds_of fd_conds_of
  a_done_job : Addr
  fd_done_job : FuncData
  g_done_job : mg "done_job" = some (.ref a_done_job)
  F_done_job : FunD K "done_job" "done_job" (defArgs s_done_job) (defBody s_done_job) (defScope s_done_job) [] [("rules", .ref a_dv_done_job_rules)] a_done_job fd_done_job
  a_refusal_of : Addr
  fd_refusal_of : FuncData
  g_refusal_of : mg "refusal_of" = some (.ref a_refusal_of)
  F_refusal_of : FunD K "refusal_of" "refusal_of" (defArgs s_refusal_of) (defBody s_refusal_of) (defScope s_refusal_of) [] [] a_refusal_of fd_refusal_of
  a_has_worth : Addr
  fd_has_worth : FuncData
  g_has_worth : mg "has_worth" = some (.ref a_has_worth)
  F_has_worth : FunD K "has_worth" "has_worth" (defArgs s_has_worth) (defBody s_has_worth) (defScope s_has_worth) [] [] a_has_worth fd_has_worth
  a_row_linked : Addr
  fd_row_linked : FuncData
  g_row_linked : mg "row_linked" = some (.ref a_row_linked)
  F_row_linked : FunD K "row_linked" "row_linked" (defArgs s_row_linked) (defBody s_row_linked) (defScope s_row_linked) [] [] a_row_linked fd_row_linked
  a_row_put : Addr
  fd_row_put : FuncData
  g_row_put : mg "row_put" = some (.ref a_row_put)
  F_row_put : FunD K "row_put" "row_put" (defArgs s_row_put) (defBody s_row_put) (defScope s_row_put) [] [] a_row_put fd_row_put
  a_put_done : Addr
  fd_put_done : FuncData
  g_put_done : mg "put_done" = some (.ref a_put_done)
  F_put_done : FunD K "put_done" "put_done" (defArgs s_put_done) (defBody s_put_done) (defScope s_put_done) [] [] a_put_done fd_put_done
  a_index_done : Addr
  fd_index_done : FuncData
  g_index_done : mg "index_done" = some (.ref a_index_done)
  F_index_done : FunD K "index_done" "index_done" (defArgs s_index_done) (defBody s_index_done) (defScope s_index_done) [] [] a_index_done fd_index_done
  a_row_done : Addr
  fd_row_done : FuncData
  g_row_done : mg "row_done" = some (.ref a_row_done)
  F_row_done : FunD K "row_done" "row_done" (defArgs s_row_done) (defBody s_row_done) (defScope s_row_done) [] [] a_row_done fd_row_done
  a_answer_of : Addr
  fd_answer_of : FuncData
  g_answer_of : mg "answer_of" = some (.ref a_answer_of)
  F_answer_of : FunD K "answer_of" "answer_of" (defArgs s_answer_of) (defBody s_answer_of) (defScope s_answer_of) [] [] a_answer_of fd_answer_of
  a_answer_by : Addr
  fd_answer_by : FuncData
  g_answer_by : mg "answer_by" = some (.ref a_answer_by)
  F_answer_by : FunD K "answer_by" "answer_by" (defArgs s_answer_by) (defBody s_answer_by) (defScope s_answer_by) [] [] a_answer_by fd_answer_by
  a_law_tape : Addr
  fd_law_tape : FuncData
  g_law_tape : mg "_law_tape" = some (.ref a_law_tape)
  F_law_tape : FunD K "_law_tape" "_law_tape" (defArgs s_law_tape) (defBody s_law_tape) (defScope s_law_tape) [] [] a_law_tape fd_law_tape
  a_law_pick : Addr
  fd_law_pick : FuncData
  g_law_pick : mg "_law_pick" = some (.ref a_law_pick)
  F_law_pick : FunD K "_law_pick" "_law_pick" (defArgs s_law_pick) (defBody s_law_pick) (defScope s_law_pick) [] [] a_law_pick fd_law_pick
  a_law_any : Addr
  fd_law_any : FuncData
  g_law_any : mg "_law_any" = some (.ref a_law_any)
  F_law_any : FunD K "_law_any" "_law_any" (defArgs s_law_any) (defBody s_law_any) (defScope s_law_any) [] [] a_law_any fd_law_any
  a_law_rules : Addr
  fd_law_rules : FuncData
  g_law_rules : mg "_law_rules" = some (.ref a_law_rules)
  F_law_rules : FunD K "_law_rules" "_law_rules" (defArgs s_law_rules) (defBody s_law_rules) (defScope s_law_rules) [] [] a_law_rules fd_law_rules
  a_law_value : Addr
  fd_law_value : FuncData
  g_law_value : mg "_law_value" = some (.ref a_law_value)
  F_law_value : FunD K "_law_value" "_law_value" (defArgs s_law_value) (defBody s_law_value) (defScope s_law_value) [] [] a_law_value fd_law_value
  a_law_deed : Addr
  fd_law_deed : FuncData
  g_law_deed : mg "_law_deed" = some (.ref a_law_deed)
  F_law_deed : FunD K "_law_deed" "_law_deed" (defArgs s_law_deed) (defBody s_law_deed) (defScope s_law_deed) [] [] a_law_deed fd_law_deed
  a_law_is_stray : Addr
  fd_law_is_stray : FuncData
  g_law_is_stray : mg "_law_is_stray" = some (.ref a_law_is_stray)
  F_law_is_stray : FunD K "_law_is_stray" "_law_is_stray" (defArgs s_law_is_stray) (defBody s_law_is_stray) (defScope s_law_is_stray) [] [] a_law_is_stray fd_law_is_stray
  a_law_breaks : Addr
  fd_law_breaks : FuncData
  g_law_breaks : mg "_law_breaks" = some (.ref a_law_breaks)
  F_law_breaks : FunD K "_law_breaks" "_law_breaks" (defArgs s_law_breaks) (defBody s_law_breaks) (defScope s_law_breaks) [] [] a_law_breaks fd_law_breaks
  a_law_is_done : Addr
  fd_law_is_done : FuncData
  g_law_is_done : mg "_law_is_done" = some (.ref a_law_is_done)
  F_law_is_done : FunD K "_law_is_done" "_law_is_done" (defArgs s_law_is_done) (defBody s_law_is_done) (defScope s_law_is_done) [] [] a_law_is_done fd_law_is_done
  a_law : Addr
  fd_law : FuncData
  g_law : mg "law" = some (.ref a_law)
  F_law : FunD K "law" "law" (defArgs s_law) (defBody s_law) (defScope s_law) [] [] a_law fd_law
  d_CHECKS : Addr
  g_CHECKS : mg "CHECKS" = some (.ref d_CHECKS)
  kd_CHECKS : KD K w d_CHECKS [("table", .ref a_is_word), ("land", .ref a_is_word), ("id", .ref a_is_number), ("k", .ref a_is_number), ("most", .ref a_is_number), ("more", .ref a_is_whole), ("ticks", .ref a_is_from_one), ("value", .ref a_is_value), ("worths", .ref a_are_worths), ("conds", .ref a_are_conds)]
abbrev kds_ASKS : List (Str × PyData) := [("get", (PyData.tuple [(PyData.str "table"), (PyData.str "id")])), ("rows", (PyData.tuple [(PyData.str "table"), (PyData.str "conds"), (PyData.str "most")])), ("count", (PyData.tuple [(PyData.str "table"), (PyData.str "conds")])), ("sum", (PyData.tuple [(PyData.str "table"), (PyData.str "k"), (PyData.str "conds")])), ("follow", (PyData.tuple [(PyData.str "table"), (PyData.str "id"), (PyData.str "k")]))]
section
variable {P : Program} {w : World} {K : PySem.W.Frag} {mg : Str → Option Value} {base : Heap}
theorem ks_ASKS (T : Txt K mg w) : KDs K [("get", .ref T.a_ASKS_0), ("rows", .ref T.a_ASKS_1), ("count", .ref T.a_ASKS_2), ("sum", .ref T.a_ASKS_3), ("follow", .ref T.a_ASKS_4)] kds_ASKS := .cons ⟨rfl, T.r_ASKS_0⟩ (.cons ⟨rfl, T.r_ASKS_1⟩ (.cons ⟨rfl, T.r_ASKS_2⟩ (.cons ⟨rfl, T.r_ASKS_3⟩ (.cons ⟨rfl, T.r_ASKS_4⟩ (.nil)))))
theorem bi_is_whole (T : Txt K mg w) : Binds K T.fd_is_whole ["thing"] [] := T.F_is_whole.bindsN fun _ _ _ _ _ _ us hl => match us, hl with | [_], _ => rfl
theorem bi_is_number (T : Txt K mg w) : Binds K T.fd_is_number ["thing"] [] := T.F_is_number.bindsN fun _ _ _ _ _ _ us hl => match us, hl with | [_], _ => rfl
theorem bi_is_from_one (T : Txt K mg w) : Binds K T.fd_is_from_one ["thing"] [] := T.F_is_from_one.bindsN fun _ _ _ _ _ _ us hl => match us, hl with | [_], _ => rfl
theorem bi_is_word (T : Txt K mg w) : Binds K T.fd_is_word ["thing"] [] := T.F_is_word.bindsN fun _ _ _ _ _ _ us hl => match us, hl with | [_], _ => rfl
theorem bi_is_said_text (T : Txt K mg w) : Binds K T.fd_is_said_text ["thing"] [] := T.F_is_said_text.bindsN fun _ _ _ _ _ _ us hl => match us, hl with | [_], _ => rfl
theorem bi_is_tuple_of (T : Txt K mg w) : Binds K T.fd_is_tuple_of ["thing", "many"] [] := T.F_is_tuple_of.bindsN fun _ _ _ _ _ _ us hl => match us, hl with | [_, _], _ => rfl
theorem bi_is_said (T : Txt K mg w) : Binds K T.fd_is_said ["thing"] [] := T.F_is_said.bindsN fun _ _ _ _ _ _ us hl => match us, hl with | [_], _ => rfl
theorem bi_is_link (T : Txt K mg w) : Binds K T.fd_is_link ["thing"] [] := T.F_is_link.bindsN fun _ _ _ _ _ _ us hl => match us, hl with | [_], _ => rfl
theorem bi_is_value (T : Txt K mg w) : Binds K T.fd_is_value ["thing"] [] := T.F_is_value.bindsN fun _ _ _ _ _ _ us hl => match us, hl with | [_], _ => rfl
theorem bi_are_worths (T : Txt K mg w) : Binds K T.fd_are_worths ["thing"] [] := T.F_are_worths.bindsN fun _ _ _ _ _ _ us hl => match us, hl with | [_], _ => rfl
theorem bi_is_cond (T : Txt K mg w) : Binds K T.fd_is_cond ["thing"] [] := T.F_is_cond.bindsN fun _ _ _ _ _ _ us hl => match us, hl with | [_], _ => rfl
theorem bi_are_conds (T : Txt K mg w) : Binds K T.fd_are_conds ["thing"] [] := T.F_are_conds.bindsN fun _ _ _ _ _ _ us hl => match us, hl with | [_], _ => rfl
theorem bi_fits (T : Txt K mg w) : Binds K T.fd_fits ["kind", "thing"] [] := T.F_fits.bindsN fun _ _ _ _ _ _ us hl => match us, hl with | [_, _], _ => rfl
theorem bi_are_parts (T : Txt K mg w) : Binds K T.fd_are_parts ["things", "kinds"] [] := T.F_are_parts.bindsN fun _ _ _ _ _ _ us hl => match us, hl with | [_, _], _ => rfl
theorem bi_begins_with_text (T : Txt K mg w) : Binds K T.fd_begins_with_text ["thing"] [] := T.F_begins_with_text.bindsN fun _ _ _ _ _ _ us hl => match us, hl with | [_], _ => rfl
theorem bi_is_ask (T : Txt K mg w) : Binds K T.fd_is_ask ["thing"] [] := T.F_is_ask.bindsN fun _ _ _ _ _ _ us hl => match us, hl with | [_], _ => rfl
theorem bi_is_refusal (T : Txt K mg w) : Binds K T.fd_is_refusal ["told"] [] := T.F_is_refusal.bindsN fun _ _ _ _ _ _ us hl => match us, hl with | [_], _ => rfl
theorem bi_tables_of (T : Txt K mg w) : Binds K T.fd_tables_of ["store"] [] := T.F_tables_of.bindsN fun _ _ _ _ _ _ us hl => match us, hl with | [_], _ => rfl
theorem bi_has_table (T : Txt K mg w) : Binds K T.fd_has_table ["store", "table"] [] := T.F_has_table.bindsN fun _ _ _ _ _ _ us hl => match us, hl with | [_, _], _ => rfl
theorem bi_table_in (T : Txt K mg w) : Binds K T.fd_table_in ["store", "table"] [] := T.F_table_in.bindsN fun _ _ _ _ _ _ us hl => match us, hl with | [_, _], _ => rfl
theorem bi_rows_of (T : Txt K mg w) : Binds K T.fd_rows_of ["store", "table"] [] := T.F_rows_of.bindsN fun _ _ _ _ _ _ us hl => match us, hl with | [_, _], _ => rfl
theorem bi_row_of (T : Txt K mg w) : Binds K T.fd_row_of ["store", "table", "id_told"] [] := T.F_row_of.bindsN fun _ _ _ _ _ _ us hl => match us, hl with | [_, _, _], _ => rfl
theorem bi_with_table (T : Txt K mg w) : Binds K T.fd_with_table ["store", "entry"] [] := T.F_with_table.bindsN fun _ _ _ _ _ _ us hl => match us, hl with | [_, _], _ => rfl
theorem bi_row_turned (T : Txt K mg w) : Binds K T.fd_row_turned ["row", "k", "worth"] [] := T.F_row_turned.bindsN fun _ _ _ _ _ _ us hl => match us, hl with | [_, _, _], _ => rfl
theorem bi_link_at (T : Txt K mg w) : Binds K T.fd_link_at ["row", "k"] [] := T.F_link_at.bindsN fun _ _ _ _ _ _ us hl => match us, hl with | [_, _], _ => rfl
theorem bi_rule_of (T : Txt K mg w) : Binds K T.fd_rule_of ["rules", "word", "land"] [] := T.F_rule_of.bindsN fun _ _ _ _ _ _ us hl => match us, hl with | [_, _, _], _ => rfl
theorem kb_is_kept_1_rules_tick (T : Txt K mg w) : KBn K T.fd_is_kept ["row", "rules", "tick"] 1 ["rules", "tick"] (fun us ws => sel [0, 1, 2] (us ++ ws)) (fun us ws => sel [0, 1, 2] (us ++ ws)) := kbn_sel [0, 1, 2] T.F_is_kept fun _ _ _ _ _ _ us ws h1 h2 => match us, ws, h1, h2 with | [_], [_, _], _, _ => rfl
theorem kb_is_kept (T : Txt K mg w) : KBn K T.fd_is_kept ["row", "rules", "tick"] 1 ["rules", "tick"] (fun us ws => us ++ ws) (fun us ws => us ++ ws) := kbn_all T.F_is_kept fun _ _ _ _ _ _ us ws h1 h2 => match us, ws, h1, h2 with | [_], [_, _], _, _ => rfl
theorem kb_is_stray_1_rules_land (T : Txt K mg w) : KBn K T.fd_is_stray ["row", "rules", "land"] 1 ["rules", "land"] (fun us ws => sel [0, 1, 2] (us ++ ws)) (fun us ws => sel [0, 1, 2] (us ++ ws)) := kbn_sel [0, 1, 2] T.F_is_stray fun _ _ _ _ _ _ us ws h1 h2 => match us, ws, h1, h2 with | [_], [_, _], _, _ => rfl
theorem kb_is_stray (T : Txt K mg w) : KBn K T.fd_is_stray ["row", "rules", "land"] 1 ["rules", "land"] (fun us ws => us ++ ws) (fun us ws => us ++ ws) := kbn_all T.F_is_stray fun _ _ _ _ _ _ us ws h1 h2 => match us, ws, h1, h2 with | [_], [_, _], _, _ => rfl
theorem kp_broken_by_2_land (T : Txt K mg w) : ∃ mv : List Value, KBn K T.fd_broken_by ["deed", "answer", "land", "rules"] 2 ["land"] (fun us ws => sel [0, 1, 2, 3] (us ++ ws ++ mv)) (fun vs zs => sel [0, 1, 2, 3] (vs ++ zs ++ ([("rules", .ref T.a_dv_broken_by_rules)] : List (Str × V)).map (·.2))) := kbn_part [("rules", .ref T.a_dv_broken_by_rules)] [0, 1, 2, 3] T.F_broken_by (by intro z; cases z) (fun _ h => h) fun D _ _ _ _ _ us mv ws h1 h2 h3 => match us, mv, ws, h1, h2, h3 with | [_, _], [_], [_], _, _, _ => ⟨_, _, _, _, _, _, rfl, rfl, rfl⟩
theorem drp_broken_by_2_land (T : Txt K mg w) (F : FS) (H : Hp) : RA K F H (([("rules", .ref T.a_dv_broken_by_rules)] : List (Str × V)).map (·.2)) [(PyData.tuple [])] := .cons (T.r_dv_broken_by_rules F H) (.nil)
theorem kb_broken_by_2_land_rules (T : Txt K mg w) : KBn K T.fd_broken_by ["deed", "answer", "land", "rules"] 2 ["land", "rules"] (fun us ws => sel [0, 1, 2, 3] (us ++ ws)) (fun us ws => sel [0, 1, 2, 3] (us ++ ws)) := kbn_sel [0, 1, 2, 3] T.F_broken_by fun _ _ _ _ _ _ us ws h1 h2 => match us, ws, h1, h2 with | [_, _], [_, _], _, _ => rfl
theorem kb_broken_by (T : Txt K mg w) : KBn K T.fd_broken_by ["deed", "answer", "land", "rules"] 2 ["land", "rules"] (fun us ws => us ++ ws) (fun us ws => us ++ ws) := kbn_all T.F_broken_by fun _ _ _ _ _ _ us ws h1 h2 => match us, ws, h1, h2 with | [_, _], [_, _], _, _ => rfl
theorem bi_same (T : Txt K mg w) : Binds K T.fd_same ["one", "other"] [] := T.F_same.bindsN fun _ _ _ _ _ _ us hl => match us, hl with | [_, _], _ => rfl
theorem bi_are_same (T : Txt K mg w) : Binds K T.fd_are_same ["ones", "others"] [] := T.F_are_same.bindsN fun _ _ _ _ _ _ us hl => match us, hl with | [_, _], _ => rfl
theorem bi_meets_cond (T : Txt K mg w) : Binds K T.fd_meets_cond ["row", "cond"] [] := T.F_meets_cond.bindsN fun _ _ _ _ _ _ us hl => match us, hl with | [_, _], _ => rfl
theorem bi_meets (T : Txt K mg w) : Binds K T.fd_meets ["row", "conds"] [] := T.F_meets.bindsN fun _ _ _ _ _ _ us hl => match us, hl with | [_, _], _ => rfl
theorem bi_looks (T : Txt K mg w) : Binds K T.fd_looks ["job"] [] := T.F_looks.bindsN fun _ _ _ _ _ _ us hl => match us, hl with | [_], _ => rfl
theorem bi_conds_of (T : Txt K mg w) : Binds K T.fd_conds_of ["ask"] [] := T.F_conds_of.bindsN fun _ _ _ _ _ _ us hl => match us, hl with | [_], _ => rfl
theorem kp_done_job_2_tick_land (T : Txt K mg w) : ∃ mv : List Value, KBn K T.fd_done_job ["store", "job", "tick", "land", "rules"] 2 ["tick", "land"] (fun us ws => sel [0, 1, 2, 3, 4] (us ++ ws ++ mv)) (fun vs zs => sel [0, 1, 2, 3, 4] (vs ++ zs ++ ([("rules", .ref T.a_dv_done_job_rules)] : List (Str × V)).map (·.2))) := kbn_part [("rules", .ref T.a_dv_done_job_rules)] [0, 1, 2, 3, 4] T.F_done_job (by intro z; cases z) (fun _ h => h) fun D _ _ _ _ _ us mv ws h1 h2 h3 => match us, mv, ws, h1, h2, h3 with | [_, _], [_], [_, _], _, _, _ => ⟨_, _, _, _, _, _, rfl, rfl, rfl⟩
theorem drp_done_job_2_tick_land (T : Txt K mg w) (F : FS) (H : Hp) : RA K F H (([("rules", .ref T.a_dv_done_job_rules)] : List (Str × V)).map (·.2)) [(PyData.tuple [])] := .cons (T.r_dv_done_job_rules F H) (.nil)
theorem kb_done_job (T : Txt K mg w) : KBn K T.fd_done_job ["store", "job", "tick", "land", "rules"] 2 ["tick", "land", "rules"] (fun us ws => us ++ ws) (fun us ws => us ++ ws) := kbn_all T.F_done_job fun _ _ _ _ _ _ us ws h1 h2 => match us, ws, h1, h2 with | [_, _], [_, _, _], _, _ => rfl
theorem kb_refusal_of_2_tick_land_rules (T : Txt K mg w) : KBn K T.fd_refusal_of ["store", "job", "tick", "land", "rules"] 2 ["tick", "land", "rules"] (fun us ws => sel [0, 1, 2, 3, 4] (us ++ ws)) (fun us ws => sel [0, 1, 2, 3, 4] (us ++ ws)) := kbn_sel [0, 1, 2, 3, 4] T.F_refusal_of fun _ _ _ _ _ _ us ws h1 h2 => match us, ws, h1, h2 with | [_, _], [_, _, _], _, _ => rfl
theorem kb_refusal_of (T : Txt K mg w) : KBn K T.fd_refusal_of ["store", "job", "tick", "land", "rules"] 2 ["tick", "land", "rules"] (fun us ws => us ++ ws) (fun us ws => us ++ ws) := kbn_all T.F_refusal_of fun _ _ _ _ _ _ us ws h1 h2 => match us, ws, h1, h2 with | [_, _], [_, _, _], _, _ => rfl
theorem bi_has_worth (T : Txt K mg w) : Binds K T.fd_has_worth ["row", "job"] [] := T.F_has_worth.bindsN fun _ _ _ _ _ _ us hl => match us, hl with | [_, _], _ => rfl
theorem bi_row_linked (T : Txt K mg w) : Binds K T.fd_row_linked ["store", "row", "k"] [] := T.F_row_linked.bindsN fun _ _ _ _ _ _ us hl => match us, hl with | [_, _, _], _ => rfl
theorem bi_row_put (T : Txt K mg w) : Binds K T.fd_row_put ["store", "deed", "tick"] [] := T.F_row_put.bindsN fun _ _ _ _ _ _ us hl => match us, hl with | [_, _, _], _ => rfl
theorem bi_put_done (T : Txt K mg w) : Binds K T.fd_put_done ["store", "deed", "tick"] [] := T.F_put_done.bindsN fun _ _ _ _ _ _ us hl => match us, hl with | [_, _, _], _ => rfl
theorem bi_index_done (T : Txt K mg w) : Binds K T.fd_index_done ["store", "deed"] [] := T.F_index_done.bindsN fun _ _ _ _ _ _ us hl => match us, hl with | [_, _], _ => rfl
theorem bi_row_done (T : Txt K mg w) : Binds K T.fd_row_done ["store", "deed"] [] := T.F_row_done.bindsN fun _ _ _ _ _ _ us hl => match us, hl with | [_, _], _ => rfl
theorem bi_answer_of (T : Txt K mg w) : Binds K T.fd_answer_of ["store", "ask"] [] := T.F_answer_of.bindsN fun _ _ _ _ _ _ us hl => match us, hl with | [_, _], _ => rfl
theorem bi_answer_by (T : Txt K mg w) : Binds K T.fd_answer_by ["rows", "ask"] [] := T.F_answer_by.bindsN fun _ _ _ _ _ _ us hl => match us, hl with | [_, _], _ => rfl
theorem bi_law_tape (T : Txt K mg w) : Binds K T.fd_law_tape ["_law_script"] [] := T.F_law_tape.bindsN fun _ _ _ _ _ _ us hl => match us, hl with | [_], _ => rfl
theorem bi_law_pick (T : Txt K mg w) : Binds K T.fd_law_pick ["_law_tape_here", "_law_lots"] [] := T.F_law_pick.bindsN fun _ _ _ _ _ _ us hl => match us, hl with | [_, _], _ => rfl
theorem bi_law_any (T : Txt K mg w) : Binds K T.fd_law_any ["_law_tape_here", "_law_lot"] [] := T.F_law_any.bindsN fun _ _ _ _ _ _ us hl => match us, hl with | [_, _], _ => rfl
theorem bi_law_rules (T : Txt K mg w) : Binds K T.fd_law_rules ["_law_tape_here", "_law_words"] [] := T.F_law_rules.bindsN fun _ _ _ _ _ _ us hl => match us, hl with | [_, _], _ => rfl
theorem bi_law_value (T : Txt K mg w) : Binds K T.fd_law_value ["_law_tape_here"] [] := T.F_law_value.bindsN fun _ _ _ _ _ _ us hl => match us, hl with | [_], _ => rfl
theorem bi_law_deed (T : Txt K mg w) : Binds K T.fd_law_deed ["_law_tape_here", "_law_store"] [] := T.F_law_deed.bindsN fun _ _ _ _ _ _ us hl => match us, hl with | [_, _], _ => rfl
theorem bi_law_is_stray (T : Txt K mg w) : Binds K T.fd_law_is_stray ["_law_spot", "_law_few", "_law_yonder"] [] := T.F_law_is_stray.bindsN fun _ _ _ _ _ _ us hl => match us, hl with | [_, _, _], _ => rfl
theorem bi_law_breaks (T : Txt K mg w) : Binds K T.fd_law_breaks ["_law_deed_here", "_law_told", "_law_few", "_law_yonder"] [] := T.F_law_breaks.bindsN fun _ _ _ _ _ _ us hl => match us, hl with | [_, _, _, _], _ => rfl
theorem bi_law_is_done (T : Txt K mg w) : Binds K T.fd_law_is_done ["_law_deed_here", "_law_told"] [] := T.F_law_is_done.bindsN fun _ _ _ _ _ _ us hl => match us, hl with | [_, _], _ => rfl
theorem bi_law (T : Txt K mg w) : Binds K T.fd_law ["_law_script"] [] := T.F_law.bindsN fun _ _ _ _ _ _ us hl => match us, hl with | [_], _ => rfl
def t_is_whole : TVS := (vRet (vAndV (vIsi "int" (vVar 0)) (vNotV (vIsi "bool" (vVar 0)))))
def m_is_whole : TF := vDef 1 t_is_whole
theorem e_is_whole : m_is_whole = vDef 1 (vRet (vAndV (vIsi "int" (vVar 0)) (vNotV (vIsi "bool" (vVar 0))))) := rfl
set_option maxHeartbeats 4000000 in
theorem ok_is_whole (T : Txt K mg w) : GOk P w K mg base CX0 1 T.a_is_whole T.fd_is_whole ["thing"] (spOf K 1 0 m_is_whole) := by
  refine def_bodyD T.F_is_whole sc_is_whole fun f cdv A outer s H E hr gd => ?_
  exact ex_k (vss_one (vs_ret (ve_and (ve_isi (fun te he => pe_callB call_isi (by rfl) T.b_isinstance (by decide +kernel) (pa_cons he (pa_cons (pe_bltn (v := .ty "int") (by rfl) T.b_int (by decide +kernel) rfl) pa_nil))) tok_int (.ty _) (ve_var (pv 0))) (ve_one (ve_not (ve_isi (fun te he => pe_callB call_isi (by rfl) T.b_isinstance (by decide +kernel) (pa_cons he (pa_cons (pe_bltn (v := .ty "bool") (by rfl) T.b_bool (by decide +kernel) rfl) pa_nil))) tok_bool (.ty _) (ve_var (pv 0)))))))) (by omega)
def b_is_word_0 : TVS := (vRet (vCB fAll (vCons (vLc (vSeqI (vVar 0)) (vgName 1) (fun _ Q => Q true) (vBin (fInD false) (vVar 1) (vC (PyData.str "abcdefghijklmnopqrstuvwxyz"))) [1]) vNil)))
def b_is_word_1 : TVS := (vSeq (vIfS (vOr (vNotT (vTest (vIsi "str" (vVar 0)))) (vNotT (vTest (vChain fLeD fLeD (vC (.int 1)) (vCB fLen (vCons (vVar 0) vNil)) (vC (PyData.int (8))))))) (vRet (vC (.bool false))) vNext)
  b_is_word_0)
def t_is_word : TVS := (vSeq (vIfS (vOr (vNotT (vTest (vIsi "str" (vVar 0)))) (vNotT (vTest (vChain fLeD fLeD (vC (.int 1)) (vCB fLen (vCons (vVar 0) vNil)) (vC (PyData.int (8))))))) (vRet (vC (.bool false))) vNext)
  (vRet (vCB fAll (vCons (vLc (vSeqI (vVar 0)) (vgName 1) (fun _ Q => Q true) (vBin (fInD false) (vVar 1) (vC (PyData.str "abcdefghijklmnopqrstuvwxyz"))) [1]) vNil))))
def m_is_word : TF := vDef 2 t_is_word
theorem e_is_word : m_is_word = vDef 2 b_is_word_1 := rfl
set_option maxHeartbeats 4000000 in
theorem ok_is_word (T : Txt K mg w) : GOk P w K mg base CX0 1 T.a_is_word T.fd_is_word ["thing"] (spOf K 1 0 m_is_word) := by
  refine def_bodyD T.F_is_word sc_is_word fun f cdv A outer s H E hr gd => ?_
  exact ex_k (vss_cons (vs_if (vw_pt (vw_or (vt_not (vt_val (ve_isi (fun te he => pe_callB call_isi (by rfl) T.b_isinstance (by decide +kernel) (pa_cons he (pa_cons (pe_bltn (v := .ty "str") (by rfl) T.b_str (by decide +kernel) rfl) pa_nil))) tok_str (.ty _) (ve_var (pv 0))) (by intro _; rfl))) (vw_one (vt_not (vt_chain op_leAll op_leAll ops_leD ops_leD ve_int (ve_cb (fun ta ha => pe_callB call_lenA (by rfl) T.b_len (by decide +kernel) ha) cs_len (va_cons (ve_var (pv 0)) va_nil (by rfl))) (ve_c (v := .int (8)) (Exists.elim T.g_MOST_LETTERS fun _ e => pe_glob (by rfl) e ⟨_, rfl⟩) fun _ _ => .int _) (fun _ _ _ a b c => pt_chain op_leAll op_leAll a b c)))))) (vss_one (vs_ret ve_bl)) vss_nil)
  (vss_one (vs_ret (ve_cb (fun ta ha => pe_callB (cr_all rfl) (by rfl) T.b_all (by decide +kernel) ha) cs_all (va_cons (ve_lc (fun _ _ _ _ a b c d => pe_lc (own := [("sign", 1)]) rfl sc_is_word.nd a (blkOk_by (own := [("sign", 1)]) (N := N_is_word) (sc := defScope s_is_word) (by decide +kernel)) b c d) (vi_seq (ve_var (pv 0))) (fun _ _ _ _ _ => (vtg_name (pg_name (i := 1) sc_is_word.nd rfl (Or.inl rfl)))) (fun _ _ _ _ _ => vts_nil) (fun _ _ _ _ _ => (ve_cmp (op_in_sign.or (op_inD hr)) ops_inD (ve_var (pv 1)) (ve_c (v := .str "abcdefghijklmnopqrstuvwxyz") (Exists.elim T.g_SMALL_LETTERS fun _ e => pe_glob (by rfl) e ⟨_, rfl⟩) fun _ _ => .str _) (by rfl))) (by decide)) va_nil (by rfl)))))) (by omega)
def b_is_said_text_0 : TVS := (vRet (vCB fAll (vCons (vLc (vSeqI (vVar 1)) (vgName 3) (fun _ Q => Q true) (vAndV (vChain fLeD fLeD (vC (PyData.int (32))) (vVar 3) (vC (PyData.int (126)))) (vBin (fEq true) (vVar 3) (vC (PyData.int (37))))) [3]) vNil)))
def b_is_said_text_1 : TVS := (vSeq (if false = true then vAsgO 1 (vLc (vSeqI (vVar 0)) (vgName 2) (fun _ Q => Q true) (vCB fOrd (vCons (vVar 2) vNil)) [2]) else vAsg 1 (vLc (vSeqI (vVar 0)) (vgName 2) (fun _ Q => Q true) (vCB fOrd (vCons (vVar 2) vNil)) [2]))
  b_is_said_text_0)
def b_is_said_text_2 : TVS := (vSeq (vIfS (vOr (vNotT (vTest (vIsi "str" (vVar 0)))) (vTest (vBin fGt (vCB fLen (vCons (vVar 0) vNil)) (vC (PyData.int (12)))))) (vRet (vC (.bool false))) vNext)
  b_is_said_text_1)
def t_is_said_text : TVS := (vSeq (vIfS (vOr (vNotT (vTest (vIsi "str" (vVar 0)))) (vTest (vBin fGt (vCB fLen (vCons (vVar 0) vNil)) (vC (PyData.int (12)))))) (vRet (vC (.bool false))) vNext)
  (vSeq (if false = true then vAsgO 1 (vLc (vSeqI (vVar 0)) (vgName 2) (fun _ Q => Q true) (vCB fOrd (vCons (vVar 2) vNil)) [2]) else vAsg 1 (vLc (vSeqI (vVar 0)) (vgName 2) (fun _ Q => Q true) (vCB fOrd (vCons (vVar 2) vNil)) [2]))
  (vRet (vCB fAll (vCons (vLc (vSeqI (vVar 1)) (vgName 3) (fun _ Q => Q true) (vAndV (vChain fLeD fLeD (vC (PyData.int (32))) (vVar 3) (vC (PyData.int (126)))) (vBin (fEq true) (vVar 3) (vC (PyData.int (37))))) [3]) vNil)))))
def m_is_said_text : TF := vDef 4 t_is_said_text
theorem e_is_said_text : m_is_said_text = vDef 4 b_is_said_text_2 := rfl
set_option maxHeartbeats 4000000 in
theorem ok_is_said_text (T : Txt K mg w) : GOk P w K mg base CX0 1 T.a_is_said_text T.fd_is_said_text ["thing"] (spOf K 1 0 m_is_said_text) := by
  refine def_bodyD T.F_is_said_text sc_is_said_text fun f cdv A outer s H E hr gd => ?_
  exact ex_k (vss_cons (vs_if (vw_pt (vw_or (vt_not (vt_val (ve_isi (fun te he => pe_callB call_isi (by rfl) T.b_isinstance (by decide +kernel) (pa_cons he (pa_cons (pe_bltn (v := .ty "str") (by rfl) T.b_str (by decide +kernel) rfl) pa_nil))) tok_str (.ty _) (ve_var (pv 0))) (by intro _; rfl))) (vw_one (vt_cmp op_gtA ops_gtA (ve_cb (fun ta ha => pe_callB call_lenA (by rfl) T.b_len (by decide +kernel) ha) cs_len (va_cons (ve_var (pv 0)) va_nil (by rfl))) (ve_c (v := .int (12)) (Exists.elim T.g_MOST_SIGNS fun _ e => pe_glob (by rfl) e ⟨_, rfl⟩) fun _ _ => .int _) (nomark _))))) (vss_one (vs_ret ve_bl)) vss_nil)
  (vss_cons (vs_setLc false (fun _ _ _ _ a b c d => ps_setLc (own := [("sign", 2)]) rfl sc_is_said_text.nd rfl rfl (sw_true rfl rfl rfl (by decide +kernel)) a (blkOk_by (own := [("sign", 2)]) (N := N_is_said_text) (sc := defScope s_is_said_text) (by decide +kernel)) b c d) (vi_seq (ve_var (pv 0))) (fun _ _ _ _ _ => (vtg_name (pg_name (i := 2) sc_is_said_text.nd rfl (Or.inl rfl)))) (fun _ _ _ _ _ => vts_nil) (fun _ _ _ _ _ => (ve_cb (fun ta ha => pe_callB call_ord (by rfl) T.b_ord (by decide +kernel) ha) cs_ord (va_cons (ve_var (pv 2)) va_nil (by rfl)))) (by decide))
  (vss_one (vs_ret (ve_cb (fun ta ha => pe_callB (cr_all rfl) (by rfl) T.b_all (by decide +kernel) ha) cs_all (va_cons (ve_lc (fun _ _ _ _ a b c d => pe_lc (own := [("number", 3)]) rfl sc_is_said_text.nd a (blkOk_by (own := [("number", 3)]) (N := N_is_said_text) (sc := defScope s_is_said_text) (by decide +kernel)) b c d) (vi_seq (ve_var (pv 1))) (fun _ _ _ _ _ => (vtg_name (pg_name (i := 3) sc_is_said_text.nd rfl (Or.inl rfl)))) (fun _ _ _ _ _ => vts_nil) (fun _ _ _ _ _ => (ve_and (ve_chain op_leAll op_leAll ops_leD ops_leD (ve_c (v := .int (32)) (Exists.elim T.g_FIRST_SIGN fun _ e => pe_glob (by rfl) e ⟨_, rfl⟩) fun _ _ => .int _) (ve_var (pv 3)) (ve_c (v := .int (126)) (Exists.elim T.g_LAST_SIGN fun _ e => pe_glob (by rfl) e ⟨_, rfl⟩) fun _ _ => .int _) (fun _ _ _ a b c => pe_chain op_leAll op_leAll a b c)) (ve_one (ve_cmp (op_neAll (hu64 hr)) ops_ne (ve_var (pv 3)) (ve_c (v := .int (37)) (Exists.elim T.g_BARRED_SIGN fun _ e => pe_glob (by rfl) e ⟨_, rfl⟩) fun _ _ => .int _) (nomark _))))) (by decide)) va_nil (by rfl))))))) (by omega)
def t_is_tuple_of : TVS := (vRet (vAndV (vIsi "tuple" (vVar 0)) (vBin (fEq false) (vCB fLen (vCons (vVar 0) vNil)) (vVar 1))))
def m_is_tuple_of : TF := vDef 2 t_is_tuple_of
theorem e_is_tuple_of : m_is_tuple_of = vDef 2 (vRet (vAndV (vIsi "tuple" (vVar 0)) (vBin (fEq false) (vCB fLen (vCons (vVar 0) vNil)) (vVar 1)))) := rfl
set_option maxHeartbeats 4000000 in
theorem ok_is_tuple_of (T : Txt K mg w) : GOk P w K mg base CX0 1 T.a_is_tuple_of T.fd_is_tuple_of ["thing", "many"] (spOf K 2 0 m_is_tuple_of) := by
  refine def_bodyD T.F_is_tuple_of sc_is_tuple_of fun f cdv A outer s H E hr gd => ?_
  exact ex_k (vss_one (vs_ret (ve_and (ve_isi (fun te he => pe_callB call_isi (by rfl) T.b_isinstance (by decide +kernel) (pa_cons he (pa_cons (pe_bltn (v := .ty "tuple") (by rfl) T.b_tuple (by decide +kernel) rfl) pa_nil))) tok_tuple (.ty _) (ve_var (pv 0))) (ve_one (ve_cmp (op_eqAll (hu64 hr)) ops_eq (ve_cb (fun ta ha => pe_callB call_lenA (by rfl) T.b_len (by decide +kernel) ha) cs_len (va_cons (ve_var (pv 0)) va_nil (by rfl))) (ve_var (pv 1)) (nomark _)))))) (by omega)
def t_begins_with_text : TVS := (vRet (vAndV (vIsi "tuple" (vVar 0)) (vAndV (vBin (fEq true) (vVar 0) (vTup vNil)) (vIsi "str" (vBin fIx (vVar 0) (vC (.int 0)))))))
def m_begins_with_text : TF := vDef 1 t_begins_with_text
theorem e_begins_with_text : m_begins_with_text = vDef 1 (vRet (vAndV (vIsi "tuple" (vVar 0)) (vAndV (vBin (fEq true) (vVar 0) (vTup vNil)) (vIsi "str" (vBin fIx (vVar 0) (vC (.int 0))))))) := rfl
set_option maxHeartbeats 4000000 in
theorem ok_begins_with_text (T : Txt K mg w) : GOk P w K mg base CX0 1 T.a_begins_with_text T.fd_begins_with_text ["thing"] (spOf K 1 0 m_begins_with_text) := by
  refine def_bodyD T.F_begins_with_text sc_begins_with_text fun f cdv A outer s H E hr gd => ?_
  exact ex_k (vss_one (vs_ret (ve_and (ve_isi (fun te he => pe_callB call_isi (by rfl) T.b_isinstance (by decide +kernel) (pa_cons he (pa_cons (pe_bltn (v := .ty "tuple") (by rfl) T.b_tuple (by decide +kernel) rfl) pa_nil))) tok_tuple (.ty _) (ve_var (pv 0))) (ve_and (ve_cmp (op_neAll (hu64 hr)) ops_ne (ve_var (pv 0)) (ve_tup va_nil) (nomark _)) (ve_one (ve_isi (fun te he => pe_callB call_isi (by rfl) T.b_isinstance (by decide +kernel) (pa_cons he (pa_cons (pe_bltn (v := .ty "str") (by rfl) T.b_str (by decide +kernel) rfl) pa_nil))) tok_str (.ty _) (ve_ix ix_seq ops_ix (ve_var (pv 0)) ve_int (fun _ _ => rfl)))))))) (by omega)
def t_tables_of : TVS := (vRet (vCB fTuple (vCons (vLc (vSeqI (vVar 0)) (vgName 1) (fun _ Q => Q true) (vBin fIx (vVar 1) (vC (.int 0))) [1]) vNil)))
def m_tables_of : TF := vDef 2 t_tables_of
theorem e_tables_of : m_tables_of = vDef 2 (vRet (vCB fTuple (vCons (vLc (vSeqI (vVar 0)) (vgName 1) (fun _ Q => Q true) (vBin fIx (vVar 1) (vC (.int 0))) [1]) vNil))) := rfl
set_option maxHeartbeats 4000000 in
theorem ok_tables_of (T : Txt K mg w) : GOk P w K mg base CX0 1 T.a_tables_of T.fd_tables_of ["store"] (spOf K 1 0 m_tables_of) := by
  refine def_bodyD T.F_tables_of sc_tables_of fun f cdv A outer s H E hr gd => ?_
  exact ex_k (vss_one (vs_ret (ve_cb (fun ta ha => pe_callTy call_tupOfN (by rfl) T.b_tuple (by decide +kernel) ha) cs_tuple (va_cons (ve_lc (fun _ _ _ _ a b c d => pe_lc (own := [("entry", 1)]) rfl sc_tables_of.nd a (blkOk_by (own := [("entry", 1)]) (N := N_tables_of) (sc := defScope s_tables_of) (by decide +kernel)) b c d) (vi_seq (ve_var (pv 0))) (fun _ _ _ _ _ => (vtg_name (pg_name (i := 1) sc_tables_of.nd rfl (Or.inl rfl)))) (fun _ _ _ _ _ => vts_nil) (fun _ _ _ _ _ => (ve_ix ix_seq ops_ix (ve_var (pv 1)) ve_int (fun _ _ => rfl))) (by decide)) va_nil (by rfl))))) (by omega)
def b_table_in_0 : TVS := (vRet (vTup (vCons (vVar 1) (vCons (vC (.int 0)) (vCons (vTup vNil) (vCons (vTup vNil) vNil))))))
def b_table_in_1 : TVS := (vSeq (vFor (vSeqI (vVar 0)) (vgName 2)
  (vIfS (vTest (vBin (fEq false) (vBin fIx (vVar 2) (vC (.int 0))) (vVar 1))) (vRet (vVar 2)) vNext))
  b_table_in_0)
def t_table_in : TVS := (vSeq (vFor (vSeqI (vVar 0)) (vgName 2)
  (vIfS (vTest (vBin (fEq false) (vBin fIx (vVar 2) (vC (.int 0))) (vVar 1))) (vRet (vVar 2)) vNext))
  (vRet (vTup (vCons (vVar 1) (vCons (vC (.int 0)) (vCons (vTup vNil) (vCons (vTup vNil) vNil)))))))
def m_table_in : TF := vDef 3 t_table_in
theorem e_table_in : m_table_in = vDef 3 b_table_in_1 := rfl
set_option maxHeartbeats 4000000 in
theorem ok_table_in (T : Txt K mg w) : GOk P w K mg base CX0 1 T.a_table_in T.fd_table_in ["store", "table"] (spOf K 2 0 m_table_in) := by
  refine def_bodyD T.F_table_in sc_table_in fun f cdv A outer s H E hr gd => ?_
  exact ex_k (vss_cons (vs_for (fun _ _ _ a b c => ps_for PassesOwn.never rfl a b c) (vi_seq (ve_var (pv 0))) (vtg_name (pg_name (i := 2) sc_table_in.nd rfl (Or.inl rfl)))
  (vss_one (vs_if (vt_cmp (op_eqAll (hu64 hr)) ops_eq (ve_ix ix_seq ops_ix (ve_var (pv 2)) ve_int (fun _ _ => rfl)) (ve_var (pv 1)) (nomark _)) (vss_one (vs_ret (ve_var (pv 2)))) vss_nil)))
  (vss_one (vs_ret (ve_tup (va_cons (ve_var (pv 1)) (va_cons ve_int (va_cons (ve_tup va_nil) (va_cons (ve_tup va_nil) va_nil (by rfl)) (by rfl)) (by rfl)) (by rfl)))))) (by omega)
def t_with_table : TVS := (vRet (vCB fTuple (vCons (vCB fSortH (vCons (vBin fAdd (vLc (vSeqI (vVar 0)) (vgName 2) (vTest (vBin (fEq true) (vBin fIx (vVar 2) (vC (.int 0))) (vBin fIx (vVar 1) (vC (.int 0))))) (vVar 2) [2]) (vLst (vCons (vVar 1) vNil))) vNil)) vNil)))
def m_with_table : TF := vDef 3 t_with_table
theorem e_with_table : m_with_table = vDef 3 (vRet (vCB fTuple (vCons (vCB fSortH (vCons (vBin fAdd (vLc (vSeqI (vVar 0)) (vgName 2) (vTest (vBin (fEq true) (vBin fIx (vVar 2) (vC (.int 0))) (vBin fIx (vVar 1) (vC (.int 0))))) (vVar 2) [2]) (vLst (vCons (vVar 1) vNil))) vNil)) vNil))) := rfl
set_option maxHeartbeats 4000000 in
theorem ok_with_table (T : Txt K mg w) : GOk P w K mg base CX0 1 T.a_with_table T.fd_with_table ["store", "entry"] (spOf K 2 0 m_with_table) := by
  refine def_bodyD T.F_with_table sc_with_table fun f cdv A outer s H E hr gd => ?_
  exact ex_k (vss_one (vs_ret (ve_cb (fun ta ha => pe_callTy call_tupOfN (by rfl) T.b_tuple (by decide +kernel) ha) cs_tuple (va_cons (ve_cb (fun ta ha => pe_callB (cr_sortedH hr) (by rfl) T.b_sorted (by decide +kernel) ha) cs_sortH (va_cons (ve_bin op_addAll ops_add (ve_lc (fun _ _ _ _ a b c d => pe_lc (own := [("other", 2)]) rfl sc_with_table.nd a (blkOk_by (own := [("other", 2)]) (N := N_with_table) (sc := defScope s_with_table) (by decide +kernel)) b c d) (vi_seq (ve_var (pv 0))) (fun _ _ _ _ _ => (vtg_name (pg_name (i := 2) sc_with_table.nd rfl (Or.inl rfl)))) (fun _ _ _ _ _ => (vts_one (vt_cmp (op_neAll (hu64 hr)) ops_ne (ve_ix ix_seq ops_ix (ve_var (pv 2)) ve_int (fun _ _ => rfl)) (ve_ix ix_seq ops_ix (ve_var (pv 1)) ve_int (fun _ _ => rfl)) (nomark _)))) (fun _ _ _ _ _ => (ve_var (pv 2))) (by decide)) (ve_lst (va_cons (ve_var (pv 1)) va_nil (by rfl)))) va_nil (by rfl))) va_nil (by rfl))))) (by omega)
def b_row_turned_0 : TVS := (vRet (vTup (vCons (vVar 3) (vCons (vVar 4) (vCons (vVar 5) (vCons (vBin fAdd (vBin fAdd (vSl (vVar 6) (fun _ Q => Q none) (vSome (vVar 1))) (vTup (vCons (vVar 2) vNil))) (vSl (vVar 6) (vSome (vBin fAdd (vVar 1) (vC (.int 1)))) (fun _ Q => Q none))) vNil))))))
def b_row_turned_1 : TVS := (vSeq (vIfS (vTest (vBin fGeA (vVar 1) (vCB fLen (vCons (vVar 6) vNil)))) (vRet (vVar 0)) vNext)
  b_row_turned_0)
def b_row_turned_2 : TVS := (vSeq (vAsgT (vVar 0) (vgTup 4 (vgCons (vgName 3) (vgCons (vgName 4) (vgCons (vgName 5) (vgCons (vgName 6) vgNil))))))
  b_row_turned_1)
def t_row_turned : TVS := (vSeq (vAsgT (vVar 0) (vgTup 4 (vgCons (vgName 3) (vgCons (vgName 4) (vgCons (vgName 5) (vgCons (vgName 6) vgNil))))))
  (vSeq (vIfS (vTest (vBin fGeA (vVar 1) (vCB fLen (vCons (vVar 6) vNil)))) (vRet (vVar 0)) vNext)
  (vRet (vTup (vCons (vVar 3) (vCons (vVar 4) (vCons (vVar 5) (vCons (vBin fAdd (vBin fAdd (vSl (vVar 6) (fun _ Q => Q none) (vSome (vVar 1))) (vTup (vCons (vVar 2) vNil))) (vSl (vVar 6) (vSome (vBin fAdd (vVar 1) (vC (.int 1)))) (fun _ Q => Q none))) vNil))))))))
def m_row_turned : TF := vDef 7 t_row_turned
theorem e_row_turned : m_row_turned = vDef 7 b_row_turned_2 := rfl
set_option maxHeartbeats 4000000 in
theorem ok_row_turned (T : Txt K mg w) : GOk P w K mg base CX0 1 T.a_row_turned T.fd_row_turned ["row", "k", "worth"] (spOf K 3 0 m_row_turned) := by
  refine def_bodyD T.F_row_turned sc_row_turned fun f cdv A outer s H E hr gd => ?_
  exact ex_k (vss_cons (vs_asgT (fun _ _ a b => ps_asg a b) (ve_var (pv 0)) (vtg_tup rfl (vtgs_cons (vtg_name (pg_name (i := 3) sc_row_turned.nd rfl (Or.inl rfl))) (vtgs_cons (vtg_name (pg_name (i := 4) sc_row_turned.nd rfl (Or.inl rfl))) (vtgs_cons (vtg_name (pg_name (i := 5) sc_row_turned.nd rfl (Or.inl rfl))) (vtgs_cons (vtg_name (pg_name (i := 6) sc_row_turned.nd rfl (Or.inl rfl))) vtgs_nil (fun _ _ a b => pgs_cons a b)) (fun _ _ a b => pgs_cons a b)) (fun _ _ a b => pgs_cons a b)) (fun _ _ a b => pgs_cons a b)) (by rfl) (by rfl)))
  (vss_cons (vs_if (vt_cmp (op_geAll hr) ops_geAll (ve_var (pv 1)) (ve_cb (fun ta ha => pe_callB call_lenA (by rfl) T.b_len (by decide +kernel) ha) cs_len (va_cons (ve_var (pv 6)) va_nil (by rfl))) (nomark _)) (vss_one (vs_ret (ve_var (pv 0)))) vss_nil)
  (vss_one (vs_ret (ve_tup (va_cons (ve_var (pv 3)) (va_cons (ve_var (pv 4)) (va_cons (ve_var (pv 5)) (va_cons (ve_bin op_addAll ops_add (ve_bin op_addAll ops_add (ve_sl (ve_var (pv 6)) vo_none (vo_some (ve_var (pv 1)))) (ve_tup (va_cons (ve_var (pv 2)) va_nil (by rfl)))) (ve_sl (ve_var (pv 6)) (vo_some (ve_bin op_addAll ops_add (ve_var (pv 1)) ve_int)) vo_none)) va_nil (by rfl)) (by rfl)) (by rfl)) (by rfl))))))) (by omega)
def b_rule_of_0 : TVS := (vRet (vC .none))
def b_rule_of_1 : TVS := (vSeq (vFor (vSeqI (vVar 0)) (vgName 3)
  (vIfS (vTest (vBin (fEq false) (vSl (vVar 3) (fun _ Q => Q none) (vSome (vC (.int 2)))) (vTup (vCons (vVar 1) (vCons (vVar 2) vNil))))) (vRet (vVar 3)) vNext))
  b_rule_of_0)
def t_rule_of : TVS := (vSeq (vFor (vSeqI (vVar 0)) (vgName 3)
  (vIfS (vTest (vBin (fEq false) (vSl (vVar 3) (fun _ Q => Q none) (vSome (vC (.int 2)))) (vTup (vCons (vVar 1) (vCons (vVar 2) vNil))))) (vRet (vVar 3)) vNext))
  (vRet (vC .none)))
def m_rule_of : TF := vDef 4 t_rule_of
theorem e_rule_of : m_rule_of = vDef 4 b_rule_of_1 := rfl
set_option maxHeartbeats 4000000 in
theorem ok_rule_of (T : Txt K mg w) : GOk P w K mg base CX0 1 T.a_rule_of T.fd_rule_of ["rules", "word", "land"] (spOf K 3 0 m_rule_of) := by
  refine def_bodyD T.F_rule_of sc_rule_of fun f cdv A outer s H E hr gd => ?_
  exact ex_k (vss_cons (vs_for (fun _ _ _ a b c => ps_for PassesOwn.never rfl a b c) (vi_seq (ve_var (pv 0))) (vtg_name (pg_name (i := 3) sc_rule_of.nd rfl (Or.inl rfl)))
  (vss_one (vs_if (vt_cmp (op_eqAll (hu64 hr)) ops_eq (ve_sl (ve_var (pv 3)) vo_none (vo_some ve_int)) (ve_tup (va_cons (ve_var (pv 1)) (va_cons (ve_var (pv 2)) va_nil (by rfl)) (by rfl))) (nomark _)) (vss_one (vs_ret (ve_var (pv 3)))) vss_nil)))
  (vss_one (vs_ret ve_non))) (by omega)
def t_are_same (self : TF) : TVS := (vRet (vAndV (vBin (fEq false) (vCB fLen (vCons (vVar 0) vNil)) (vCB fLen (vCons (vVar 1) vNil))) (vCB fAll (vCons (vLc (vZip (vCons (vVar 0) (vCons (vVar 1) vNil))) (vgTup 2 (vgCons (vgName 2) (vgCons (vgName 3) vgNil))) (fun _ Q => Q true) (vCall 2 self [] (vCons (vVar 2) (vCons (vVar 3) vNil))) [2, 3]) vNil))))
def m_are_same (self : TF) : TF := vDef 4 (t_are_same self)
theorem e_are_same (self : TF) : m_are_same self = vDef 4 (vRet (vAndV (vBin (fEq false) (vCB fLen (vCons (vVar 0) vNil)) (vCB fLen (vCons (vVar 1) vNil))) (vCB fAll (vCons (vLc (vZip (vCons (vVar 0) (vCons (vVar 1) vNil))) (vgTup 2 (vgCons (vgName 2) (vgCons (vgName 3) vgNil))) (fun _ Q => Q true) (vCall 2 self [] (vCons (vVar 2) (vCons (vVar 3) vNil))) [2, 3]) vNil)))) := rfl
set_option maxHeartbeats 4000000 in
theorem ok_are_same (T : Txt K mg w) {k : Nat} {self : TF} (hs : GOk P w K mg base CX0 k T.a_same T.fd_same ["one", "other"] (spOf K 2 0 self)) (hk : 0 ≤ k) : GOk P w K mg base CX0 (k + 1) T.a_are_same T.fd_are_same ["ones", "others"] (spOf K 2 0 (m_are_same self)) := by
  refine def_bodyD (k := k) T.F_are_same sc_are_same fun f cdv A outer s H E hr gd => ?_
  exact ex_k (vss_one (vs_ret (ve_and (ve_cmp (op_eqAll (hu64 hr)) ops_eq (ve_cb (fun ta ha => pe_callB call_lenA (by rfl) T.b_len (by decide +kernel) ha) cs_len (va_cons (ve_var (pv 0)) va_nil (by rfl))) (ve_cb (fun ta ha => pe_callB call_lenA (by rfl) T.b_len (by decide +kernel) ha) cs_len (va_cons (ve_var (pv 1)) va_nil (by rfl))) (nomark _)) (ve_one (ve_cb (fun ta ha => pe_callB (cr_all rfl) (by rfl) T.b_all (by decide +kernel) ha) cs_all (va_cons (ve_lc (fun _ _ _ _ a b c d => pe_lc (own := [("one", 2), ("other", 3)]) rfl sc_are_same.nd a (blkOk_by (own := [("one", 2), ("other", 3)]) (N := N_are_same) (sc := defScope s_are_same) (by decide +kernel)) b c d) (vi_zip (fun ta ha => RZ.pi_zipA (by rfl) T.b_zip ha) (va_cons (ve_var (pv 0)) (va_cons (ve_var (pv 1)) va_nil (by rfl)) (by rfl))) (fun _ _ _ _ _ => (vtg_tup rfl (vtgs_cons (vtg_name (pg_name (i := 2) sc_are_same.nd rfl (Or.inl rfl))) (vtgs_cons (vtg_name (pg_name (i := 3) sc_are_same.nd rfl (Or.inl rfl))) vtgs_nil (fun _ _ a b => pgs_cons a b)) (fun _ _ a b => pgs_cons a b)) (by rfl) (by rfl))) (fun _ _ _ _ _ => vts_nil) (fun _ _ _ _ _ => (ve_call (fun ta ha => gp_call hs (hr.mono (by omega)) gd (by rfl) T.g_same T.F_same.kp (bi_same T) .nil pass0 ha) (fun _ _ => .nil) (va_cons (ve_var (pv 2)) (va_cons (ve_var (pv 3)) va_nil (by rfl)) (by rfl)))) (by decide)) va_nil (by rfl))))))) (by omega)
def t_looks : TVS := (vRet (vBin (fInD false) (vBin fIx (vVar 0) (vC (.int 0))) (vTup (vCons (vC (.str "rows")) (vCons (vC (.str "count")) (vCons (vC (.str "sum")) vNil))))))
def m_looks : TF := vDef 1 t_looks
theorem e_looks : m_looks = vDef 1 (vRet (vBin (fInD false) (vBin fIx (vVar 0) (vC (.int 0))) (vTup (vCons (vC (.str "rows")) (vCons (vC (.str "count")) (vCons (vC (.str "sum")) vNil)))))) := rfl
set_option maxHeartbeats 4000000 in
theorem ok_looks (T : Txt K mg w) : GOk P w K mg base CX0 1 T.a_looks T.fd_looks ["job"] (spOf K 1 0 m_looks) := by
  refine def_bodyD T.F_looks sc_looks fun f cdv A outer s H E hr gd => ?_
  exact ex_k (vss_one (vs_ret (ve_cmp (op_in_sign.or (op_inD hr)) ops_inD (ve_ix ix_seq ops_ix (ve_var (pv 0)) ve_int (fun _ _ => rfl)) (ve_tup (va_cons ve_str (va_cons ve_str (va_cons ve_str va_nil (by rfl)) (by rfl)) (by rfl))) (by rfl)))) (by omega)
def t_conds_of : TVS := (vRet (vIf (vTest (vBin (fEq false) (vBin fIx (vVar 0) (vC (.int 0))) (vC (.str "sum")))) (vBin fIx (vVar 0) (vC (.int 3))) (vBin fIx (vVar 0) (vC (.int 2)))))
def m_conds_of : TF := vDef 1 t_conds_of
theorem e_conds_of : m_conds_of = vDef 1 (vRet (vIf (vTest (vBin (fEq false) (vBin fIx (vVar 0) (vC (.int 0))) (vC (.str "sum")))) (vBin fIx (vVar 0) (vC (.int 3))) (vBin fIx (vVar 0) (vC (.int 2))))) := rfl
set_option maxHeartbeats 4000000 in
theorem ok_conds_of (T : Txt K mg w) : GOk P w K mg base CX0 1 T.a_conds_of T.fd_conds_of ["ask"] (spOf K 1 0 m_conds_of) := by
  refine def_bodyD T.F_conds_of sc_conds_of fun f cdv A outer s H E hr gd => ?_
  exact ex_k (vss_one (vs_ret (ve_if (vt_cmp (op_eqAll (hu64 hr)) ops_eq (ve_ix ix_seq ops_ix (ve_var (pv 0)) ve_int (fun _ _ => rfl)) ve_str (nomark _)) (ve_ix ix_seq ops_ix (ve_var (pv 0)) ve_int (fun _ _ => rfl)) (ve_ix ix_seq ops_ix (ve_var (pv 0)) ve_int (fun _ _ => rfl))))) (by omega)
def t_law_tape : TVS := (vRet (vTap (vCons (vCB fList (vCons (vSl (vVar 0) (fun _ Q => Q none) (vSome (vC (.int 63)))) vNil)) (vCons (vC (.int 0)) (vCons (vC (.int 0)) (vCons (vC (.int 0)) vNil))))))
def m_law_tape : TF := vDef 1 t_law_tape
theorem e_law_tape : m_law_tape = vDef 1 (vRet (vTap (vCons (vCB fList (vCons (vSl (vVar 0) (fun _ Q => Q none) (vSome (vC (.int 63)))) vNil)) (vCons (vC (.int 0)) (vCons (vC (.int 0)) (vCons (vC (.int 0)) vNil)))))) := rfl
set_option maxHeartbeats 4000000 in
theorem ok_law_tape (T : Txt K mg w) : GOk P w K mg base CX0 1 T.a_law_tape T.fd_law_tape ["_law_script"] (spOf K 1 0 m_law_tape) := by
  refine def_bodyD T.F_law_tape sc_law_tape fun f cdv A outer s H E hr gd => ?_
  exact ex_k (vss_one (vs_ret (ve_tap (va_cons (ve_cb (fun ta ha => pe_callTy call_list_of (by rfl) T.b_list (by decide +kernel) ha) cs_list (va_cons (ve_sl (ve_var (pv 0)) vo_none (vo_some ve_int)) va_nil (by rfl))) (va_cons ve_int (va_cons ve_int (va_cons ve_int va_nil (by rfl)) (by rfl)) (by rfl)) (by rfl))))) (by omega)
def b_law_pick_0 : TVS := (vRet (vVar 5))
def b_law_pick_1 : TVS := (vSeq (vTapSet 0 (vBin fDiv (vTapI 0 2) (vVar 1)))
  b_law_pick_0)
def b_law_pick_2 : TVS := (vSeq (vAsg 5 (vBin fMod (vTapI 0 2) (vVar 1)))
  b_law_pick_1)
def b_law_pick_3 : TVS := (vRet (vBin fMod (vVar 3) (vVar 1)))
def b_law_pick_4 : TVS := (vSeq (vTapSet 0 (vBin fDiv (vVar 3) (vVar 1)))
  b_law_pick_3)
def b_law_pick_5 : TVS := (vRet (vBin fMod (vBin fDiv (vVar 4) (vC (.int 256))) (vVar 1)))
def b_law_pick_6 : TVS := (vSeq (vAsg 4 (vBin fMod (vBin fAdd (vBin fAdd (vBin fMul (vVar 4) (vVar 4)) (vBin fMul (vC (.int 12611)) (vVar 4))) (vC (.int 1))) (vC (.int 2147483579))))
  b_law_pick_5)
def b_law_pick_7 : TVS := (vSeq (vAsg 4 (vBin fMod (vBin fAdd (vBin fAdd (vBin fMul (vVar 4) (vVar 4)) (vBin fMul (vC (.int 29303)) (vTapI 0 3))) (vC (.int 23))) (vC (.int 2147483587))))
  b_law_pick_6)
def b_law_pick_8 : TVS := (vSeq (vAsg 4 (vBin fMod (vBin fAdd (vBin fAdd (vBin fMod (vVar 3) (vC (.int 2147483647))) (vBin fMul (vC (.int 78031)) (vTapI 0 3))) (vC (.int 87))) (vC (.int 2147483629))))
  b_law_pick_7)
def b_law_pick_9 : TVS := (vSeq (vIfS (vAnd (vTest (vBin fGeA (vVar 3) (vBin fPow (vC (.int 10)) (vC (.int 18))))) (vTest (vBin fLtD (vVar 2) (vCB fLen (vCons (vTapL 0) vNil))))) b_law_pick_4 vNext)
  b_law_pick_8)
def b_law_pick_10 : TVS := (vSeq (vAsg 3 (vIf (vTest (vBin (fEq true) (vTapL 0) (vLst vNil))) (vBin fIx (vTapL 0) (vBin fMod (vVar 2) (vCB fLen (vCons (vTapL 0) vNil)))) (vC (.int 204))))
  b_law_pick_9)
def b_law_pick_11 : TVS := (vSeq (vTapSet 0 (vBin fAdd (vVar 2) (vC (.int 1))))
  b_law_pick_10)
def b_law_pick_12 : TVS := (vSeq (vAsg 2 (vTapI 0 1))
  b_law_pick_11)
def b_law_pick_13 : TVS := (vSeq (vIfS (vTest (vBin fGt (vTapI 0 2) (vC (.int 0)))) b_law_pick_2 vNext)
  b_law_pick_12)
def b_law_pick_14 : TVS := (vSeq (vTapInc 0)
  b_law_pick_13)
def t_law_pick : TVS := (vSeq (vTapInc 0)
  (vSeq (vIfS (vTest (vBin fGt (vTapI 0 2) (vC (.int 0)))) (vSeq (vAsg 5 (vBin fMod (vTapI 0 2) (vVar 1)))
  (vSeq (vTapSet 0 (vBin fDiv (vTapI 0 2) (vVar 1)))
  (vRet (vVar 5)))) vNext)
  (vSeq (vAsg 2 (vTapI 0 1))
  (vSeq (vTapSet 0 (vBin fAdd (vVar 2) (vC (.int 1))))
  (vSeq (vAsg 3 (vIf (vTest (vBin (fEq true) (vTapL 0) (vLst vNil))) (vBin fIx (vTapL 0) (vBin fMod (vVar 2) (vCB fLen (vCons (vTapL 0) vNil)))) (vC (.int 204))))
  (vSeq (vIfS (vAnd (vTest (vBin fGeA (vVar 3) (vBin fPow (vC (.int 10)) (vC (.int 18))))) (vTest (vBin fLtD (vVar 2) (vCB fLen (vCons (vTapL 0) vNil))))) (vSeq (vTapSet 0 (vBin fDiv (vVar 3) (vVar 1)))
  (vRet (vBin fMod (vVar 3) (vVar 1)))) vNext)
  (vSeq (vAsg 4 (vBin fMod (vBin fAdd (vBin fAdd (vBin fMod (vVar 3) (vC (.int 2147483647))) (vBin fMul (vC (.int 78031)) (vTapI 0 3))) (vC (.int 87))) (vC (.int 2147483629))))
  (vSeq (vAsg 4 (vBin fMod (vBin fAdd (vBin fAdd (vBin fMul (vVar 4) (vVar 4)) (vBin fMul (vC (.int 29303)) (vTapI 0 3))) (vC (.int 23))) (vC (.int 2147483587))))
  (vSeq (vAsg 4 (vBin fMod (vBin fAdd (vBin fAdd (vBin fMul (vVar 4) (vVar 4)) (vBin fMul (vC (.int 12611)) (vVar 4))) (vC (.int 1))) (vC (.int 2147483579))))
  (vRet (vBin fMod (vBin fDiv (vVar 4) (vC (.int 256))) (vVar 1))))))))))))
def m_law_pick : TF := vDef 6 t_law_pick
theorem e_law_pick : m_law_pick = vDef 6 b_law_pick_14 := rfl
set_option maxHeartbeats 4000000 in
theorem ok_law_pick (T : Txt K mg w) : GOk P w K mg base CX0 1 T.a_law_pick T.fd_law_pick ["_law_tape_here", "_law_lots"] (spOf K 2 1 m_law_pick) := by
  refine def_bodyD T.F_law_pick sc_law_pick fun f cdv A outer s H E hr gd => ?_
  exact ex_k (vss_cons (vs_tapInc (i := 0) (ps_lput (pv 0) pe_int (pe_op op_add (pe_ix ix_seq (pv 0) pe_int (fun _ _ => rfl)) pe_int) rfl) rfl)
  (vss_cons (vs_if (vt_cmp op_gtA ops_gtA (ve_tapI (j := 2) (by decide) (pv 0) pe_int (fun _ _ => rfl)) ve_int (nomark _)) (vss_cons (vs_asg (fun te he => ps_set (i := 5) sc_law_pick.nd rfl (Or.inl rfl) he) (ve_bin op_mod ops_mod (ve_tapI (j := 2) (by decide) (pv 0) pe_int (fun _ _ => rfl)) (ve_var (pv 1))))
  (vss_cons (vs_tapSet (j := 2) (fun te he => ps_lput (pv 0) pe_int he rfl) (ve_bin op_fdivW ops_div (ve_tapI (j := 2) (by decide) (pv 0) pe_int (fun _ _ => rfl)) (ve_var (pv 1))) (by first | exact .inl rfl | exact .inr rfl))
  (vss_one (vs_ret (ve_var (pv 5)))))) vss_nil)
  (vss_cons (vs_asg (fun te he => ps_set (i := 2) sc_law_pick.nd rfl (Or.inl rfl) he) (ve_tapI (j := 1) (by decide) (pv 0) pe_int (fun _ _ => rfl)))
  (vss_cons (vs_tapSet (j := 1) (fun te he => ps_lput (pv 0) pe_int he rfl) (ve_bin op_addAll ops_add (ve_var (pv 2)) ve_int) (by first | exact .inl rfl | exact .inr rfl))
  (vss_cons (vs_asg (fun te he => ps_set (i := 3) sc_law_pick.nd rfl (Or.inl rfl) he) (ve_if (vt_cmp (op_neAll (hu64 hr)) ops_ne (ve_tapL (pv 0) pe_int (fun _ _ => rfl)) (ve_lst va_nil) (nomark _)) (ve_ix ix_seq ops_ix (ve_tapL (pv 0) pe_int (fun _ _ => rfl)) (ve_bin op_mod ops_mod (ve_var (pv 2)) (ve_cb (fun ta ha => pe_callB call_lenA (by rfl) T.b_len (by decide +kernel) ha) cs_len (va_cons (ve_tapL (pv 0) pe_int (fun _ _ => rfl)) va_nil (by rfl)))) (fun _ _ => rfl)) ve_int))
  (vss_cons (vs_if (vw_pt (vw_and (vt_cmp (op_geAll hr) ops_geAll (ve_var (pv 3)) (ve_bin op_pow ops_pow ve_int ve_int) (nomark _)) (vw_one (vt_cmp (op_ltAll hr) ops_ltAll (ve_var (pv 2)) (ve_cb (fun ta ha => pe_callB call_lenA (by rfl) T.b_len (by decide +kernel) ha) cs_len (va_cons (ve_tapL (pv 0) pe_int (fun _ _ => rfl)) va_nil (by rfl))) (nomark _))))) (vss_cons (vs_tapSet (j := 2) (fun te he => ps_lput (pv 0) pe_int he rfl) (ve_bin op_fdivW ops_div (ve_var (pv 3)) (ve_var (pv 1))) (by first | exact .inl rfl | exact .inr rfl))
  (vss_one (vs_ret (ve_bin op_mod ops_mod (ve_var (pv 3)) (ve_var (pv 1)))))) vss_nil)
  (vss_cons (vs_asg (fun te he => ps_set (i := 4) sc_law_pick.nd rfl (Or.inl rfl) he) (ve_bin op_mod ops_mod (ve_bin op_addAll ops_add (ve_bin op_addAll ops_add (ve_bin op_mod ops_mod (ve_var (pv 3)) ve_int) (ve_bin op_mulA ops_mul ve_int (ve_tapI (j := 3) (by decide) (pv 0) pe_int (fun _ _ => rfl)))) ve_int) ve_int))
  (vss_cons (vs_asg (fun te he => ps_set (i := 4) sc_law_pick.nd rfl (Or.inl rfl) he) (ve_bin op_mod ops_mod (ve_bin op_addAll ops_add (ve_bin op_addAll ops_add (ve_bin op_mulA ops_mul (ve_var (pv 4)) (ve_var (pv 4))) (ve_bin op_mulA ops_mul ve_int (ve_tapI (j := 3) (by decide) (pv 0) pe_int (fun _ _ => rfl)))) ve_int) ve_int))
  (vss_cons (vs_asg (fun te he => ps_set (i := 4) sc_law_pick.nd rfl (Or.inl rfl) he) (ve_bin op_mod ops_mod (ve_bin op_addAll ops_add (ve_bin op_addAll ops_add (ve_bin op_mulA ops_mul (ve_var (pv 4)) (ve_var (pv 4))) (ve_bin op_mulA ops_mul ve_int (ve_var (pv 4)))) ve_int) ve_int))
  (vss_one (vs_ret (ve_bin op_mod ops_mod (ve_bin op_fdivW ops_div (ve_var (pv 4)) ve_int) (ve_var (pv 1)))))))))))))) (by omega)
def t_law_is_stray : TVS := (vRet (vAndV (vBin (fInD false) (vTup (vCons (vC (.str "stay")) (vCons (vVar 0) vNil))) (vVar 1)) (vBin (fEq true) (vVar 0) (vVar 2))))
def m_law_is_stray : TF := vDef 3 t_law_is_stray
theorem e_law_is_stray : m_law_is_stray = vDef 3 (vRet (vAndV (vBin (fInD false) (vTup (vCons (vC (.str "stay")) (vCons (vVar 0) vNil))) (vVar 1)) (vBin (fEq true) (vVar 0) (vVar 2)))) := rfl
set_option maxHeartbeats 4000000 in
theorem ok_law_is_stray (T : Txt K mg w) : GOk P w K mg base CX0 1 T.a_law_is_stray T.fd_law_is_stray ["_law_spot", "_law_few", "_law_yonder"] (spOf K 3 0 m_law_is_stray) := by
  refine def_bodyD T.F_law_is_stray sc_law_is_stray fun f cdv A outer s H E hr gd => ?_
  exact ex_k (vss_one (vs_ret (ve_and (ve_cmp (op_in_sign.or (op_inD hr)) ops_inD (ve_tup (va_cons ve_str (va_cons (ve_var (pv 0)) va_nil (by rfl)) (by rfl))) (ve_var (pv 1)) (by rfl)) (ve_one (ve_cmp (op_neAll (hu64 hr)) ops_ne (ve_var (pv 0)) (ve_var (pv 2)) (nomark _)))))) (by omega)
def t_law_is_done : TVS := (vRet (vAndV (vBin (fInD false) (vBin fIx (vVar 0) (vC (.int 0))) (vTup (vCons (vC (.str "put")) (vCons (vC (.str "set")) (vCons (vC (.str "add")) (vCons (vC (.str "drop")) (vCons (vC (.str "index")) vNil))))))) (vOrV (vNotV (vIsi "tuple" (vVar 1))) (vBin (fEq true) (vSl (vVar 1) (fun _ Q => Q none) (vSome (vC (.int 1)))) (vTup (vCons (vC (.str "no")) vNil))))))
def m_law_is_done : TF := vDef 2 t_law_is_done
theorem e_law_is_done : m_law_is_done = vDef 2 (vRet (vAndV (vBin (fInD false) (vBin fIx (vVar 0) (vC (.int 0))) (vTup (vCons (vC (.str "put")) (vCons (vC (.str "set")) (vCons (vC (.str "add")) (vCons (vC (.str "drop")) (vCons (vC (.str "index")) vNil))))))) (vOrV (vNotV (vIsi "tuple" (vVar 1))) (vBin (fEq true) (vSl (vVar 1) (fun _ Q => Q none) (vSome (vC (.int 1)))) (vTup (vCons (vC (.str "no")) vNil)))))) := rfl
set_option maxHeartbeats 4000000 in
theorem ok_law_is_done (T : Txt K mg w) : GOk P w K mg base CX0 1 T.a_law_is_done T.fd_law_is_done ["_law_deed_here", "_law_told"] (spOf K 2 0 m_law_is_done) := by
  refine def_bodyD T.F_law_is_done sc_law_is_done fun f cdv A outer s H E hr gd => ?_
  exact ex_k (vss_one (vs_ret (ve_and (ve_cmp (op_in_sign.or (op_inD hr)) ops_inD (ve_ix ix_seq ops_ix (ve_var (pv 0)) ve_int (fun _ _ => rfl)) (ve_tup (va_cons ve_str (va_cons ve_str (va_cons ve_str (va_cons ve_str (va_cons ve_str va_nil (by rfl)) (by rfl)) (by rfl)) (by rfl)) (by rfl))) (by rfl)) (ve_one (ve_or (ve_not (ve_isi (fun te he => pe_callB call_isi (by rfl) T.b_isinstance (by decide +kernel) (pa_cons he (pa_cons (pe_bltn (v := .ty "tuple") (by rfl) T.b_tuple (by decide +kernel) rfl) pa_nil))) tok_tuple (.ty _) (ve_var (pv 1)))) (ve_one (ve_cmp (op_neAll (hu64 hr)) ops_ne (ve_sl (ve_var (pv 1)) vo_none (vo_some ve_int)) (ve_tup (va_cons ve_str va_nil (by rfl))) (nomark _)))))))) (by omega)
def t_is_number : TVS := (vRet (vAndV (vCall 1 m_is_whole [] (vCons (vVar 0) vNil)) (vBin fGeA (vVar 0) (vC (.int 0)))))
def m_is_number : TF := vDef 1 t_is_number
theorem e_is_number : m_is_number = vDef 1 (vRet (vAndV (vCall 1 m_is_whole [] (vCons (vVar 0) vNil)) (vBin fGeA (vVar 0) (vC (.int 0))))) := rfl
set_option maxHeartbeats 4000000 in
theorem ok_is_number (T : Txt K mg w) : GOk P w K mg base CX0 2 T.a_is_number T.fd_is_number ["thing"] (spOf K 1 0 m_is_number) := by
  refine def_bodyD T.F_is_number sc_is_number fun f cdv A outer s H E hr gd => ?_
  exact ex_k (vss_one (vs_ret (ve_and (ve_call (fun ta ha => gp_call (ok_is_whole T) (hr.mono (by omega)) gd (by rfl) T.g_is_whole T.F_is_whole.kp (bi_is_whole T) .nil pass0 ha) (fun _ _ => .nil) (va_cons (ve_var (pv 0)) va_nil (by rfl))) (ve_one (ve_cmp (op_geAll hr) ops_geAll (ve_var (pv 0)) ve_int (nomark _)))))) (by omega)
def t_is_from_one : TVS := (vRet (vAndV (vCall 1 m_is_whole [] (vCons (vVar 0) vNil)) (vBin fGeA (vVar 0) (vC (.int 1)))))
def m_is_from_one : TF := vDef 1 t_is_from_one
theorem e_is_from_one : m_is_from_one = vDef 1 (vRet (vAndV (vCall 1 m_is_whole [] (vCons (vVar 0) vNil)) (vBin fGeA (vVar 0) (vC (.int 1))))) := rfl
set_option maxHeartbeats 4000000 in
theorem ok_is_from_one (T : Txt K mg w) : GOk P w K mg base CX0 2 T.a_is_from_one T.fd_is_from_one ["thing"] (spOf K 1 0 m_is_from_one) := by
  refine def_bodyD T.F_is_from_one sc_is_from_one fun f cdv A outer s H E hr gd => ?_
  exact ex_k (vss_one (vs_ret (ve_and (ve_call (fun ta ha => gp_call (ok_is_whole T) (hr.mono (by omega)) gd (by rfl) T.g_is_whole T.F_is_whole.kp (bi_is_whole T) .nil pass0 ha) (fun _ _ => .nil) (va_cons (ve_var (pv 0)) va_nil (by rfl))) (ve_one (ve_cmp (op_geAll hr) ops_geAll (ve_var (pv 0)) ve_int (nomark _)))))) (by omega)
def t_is_said : TVS := (vRet (vAndV (vCall 2 m_is_tuple_of [] (vCons (vVar 0) (vCons (vC (.int 2)) vNil))) (vAndV (vBin (fEq false) (vBin fIx (vVar 0) (vC (.int 0))) (vC (.str "said"))) (vCall 1 m_is_said_text [] (vCons (vBin fIx (vVar 0) (vC (.int 1))) vNil)))))
def m_is_said : TF := vDef 1 t_is_said
theorem e_is_said : m_is_said = vDef 1 (vRet (vAndV (vCall 2 m_is_tuple_of [] (vCons (vVar 0) (vCons (vC (.int 2)) vNil))) (vAndV (vBin (fEq false) (vBin fIx (vVar 0) (vC (.int 0))) (vC (.str "said"))) (vCall 1 m_is_said_text [] (vCons (vBin fIx (vVar 0) (vC (.int 1))) vNil))))) := rfl
set_option maxHeartbeats 4000000 in
theorem ok_is_said (T : Txt K mg w) : GOk P w K mg base CX0 2 T.a_is_said T.fd_is_said ["thing"] (spOf K 1 0 m_is_said) := by
  refine def_bodyD T.F_is_said sc_is_said fun f cdv A outer s H E hr gd => ?_
  exact ex_k (vss_one (vs_ret (ve_and (ve_call (fun ta ha => gp_call (ok_is_tuple_of T) (hr.mono (by omega)) gd (by rfl) T.g_is_tuple_of T.F_is_tuple_of.kp (bi_is_tuple_of T) .nil pass0 ha) (fun _ _ => .nil) (va_cons (ve_var (pv 0)) (va_cons ve_int va_nil (by rfl)) (by rfl))) (ve_and (ve_cmp (op_eqAll (hu64 hr)) ops_eq (ve_ix ix_seq ops_ix (ve_var (pv 0)) ve_int (fun _ _ => rfl)) ve_str (nomark _)) (ve_one (ve_call (fun ta ha => gp_call (ok_is_said_text T) (hr.mono (by omega)) gd (by rfl) T.g_is_said_text T.F_is_said_text.kp (bi_is_said_text T) .nil pass0 ha) (fun _ _ => .nil) (va_cons (ve_ix ix_seq ops_ix (ve_var (pv 0)) ve_int (fun _ _ => rfl)) va_nil (by rfl)))))))) (by omega)
def t_is_refusal : TVS := (vRet (vAndV (vCall 1 m_begins_with_text [] (vCons (vVar 0) vNil)) (vBin (fEq false) (vBin fIx (vVar 0) (vC (.int 0))) (vC (.str "no")))))
def m_is_refusal : TF := vDef 1 t_is_refusal
theorem e_is_refusal : m_is_refusal = vDef 1 (vRet (vAndV (vCall 1 m_begins_with_text [] (vCons (vVar 0) vNil)) (vBin (fEq false) (vBin fIx (vVar 0) (vC (.int 0))) (vC (.str "no"))))) := rfl
set_option maxHeartbeats 4000000 in
theorem ok_is_refusal (T : Txt K mg w) : GOk P w K mg base CX0 2 T.a_is_refusal T.fd_is_refusal ["told"] (spOf K 1 0 m_is_refusal) := by
  refine def_bodyD T.F_is_refusal sc_is_refusal fun f cdv A outer s H E hr gd => ?_
  exact ex_k (vss_one (vs_ret (ve_and (ve_call (fun ta ha => gp_call (ok_begins_with_text T) (hr.mono (by omega)) gd (by rfl) T.g_begins_with_text T.F_begins_with_text.kp (bi_begins_with_text T) .nil pass0 ha) (fun _ _ => .nil) (va_cons (ve_var (pv 0)) va_nil (by rfl))) (ve_one (ve_cmp (op_eqAll (hu64 hr)) ops_eq (ve_ix ix_seq ops_ix (ve_var (pv 0)) ve_int (fun _ _ => rfl)) ve_str (nomark _)))))) (by omega)
def t_has_table : TVS := (vRet (vBin (fInD false) (vVar 1) (vCall 1 m_tables_of [] (vCons (vVar 0) vNil))))
def m_has_table : TF := vDef 2 t_has_table
theorem e_has_table : m_has_table = vDef 2 (vRet (vBin (fInD false) (vVar 1) (vCall 1 m_tables_of [] (vCons (vVar 0) vNil)))) := rfl
set_option maxHeartbeats 4000000 in
theorem ok_has_table (T : Txt K mg w) : GOk P w K mg base CX0 2 T.a_has_table T.fd_has_table ["store", "table"] (spOf K 2 0 m_has_table) := by
  refine def_bodyD T.F_has_table sc_has_table fun f cdv A outer s H E hr gd => ?_
  exact ex_k (vss_one (vs_ret (ve_cmp (op_in_sign.or (op_inD hr)) ops_inD (ve_var (pv 1)) (ve_call (fun ta ha => gp_call (ok_tables_of T) (hr.mono (by omega)) gd (by rfl) T.g_tables_of T.F_tables_of.kp (bi_tables_of T) .nil pass0 ha) (fun _ _ => .nil) (va_cons (ve_var (pv 0)) va_nil (by rfl))) (by rfl)))) (by omega)
def t_rows_of : TVS := (vRet (vBin fIx (vCall 2 m_table_in [] (vCons (vVar 0) (vCons (vVar 1) vNil))) (vC (.int 2))))
def m_rows_of : TF := vDef 2 t_rows_of
theorem e_rows_of : m_rows_of = vDef 2 (vRet (vBin fIx (vCall 2 m_table_in [] (vCons (vVar 0) (vCons (vVar 1) vNil))) (vC (.int 2)))) := rfl
set_option maxHeartbeats 4000000 in
theorem ok_rows_of (T : Txt K mg w) : GOk P w K mg base CX0 2 T.a_rows_of T.fd_rows_of ["store", "table"] (spOf K 2 0 m_rows_of) := by
  refine def_bodyD T.F_rows_of sc_rows_of fun f cdv A outer s H E hr gd => ?_
  exact ex_k (vss_one (vs_ret (ve_ix ix_seq ops_ix (ve_call (fun ta ha => gp_call (ok_table_in T) (hr.mono (by omega)) gd (by rfl) T.g_table_in T.F_table_in.kp (bi_table_in T) .nil pass0 ha) (fun _ _ => .nil) (va_cons (ve_var (pv 0)) (va_cons (ve_var (pv 1)) va_nil (by rfl)) (by rfl))) ve_int (fun _ _ => rfl)))) (by omega)
def b_is_kept_0 : TVS := (vRet (vAndV (vBin (fIsN true) (vVar 3) (vC .none)) (vBin fLtD (vBin fSub (vVar 2) (vBin fIx (vVar 0) (vC (.int 2)))) (vBin fIx (vVar 3) (vC (.int 2))))))
def b_is_kept_1 : TVS := (vSeq (vAsg 3 (vCall 3 m_rule_of [] (vCons (vVar 1) (vCons (vC (.str "kept")) (vCons (vBin fIx (vVar 0) (vC (.int 1))) vNil)))))
  b_is_kept_0)
def t_is_kept : TVS := (vSeq (vAsg 3 (vCall 3 m_rule_of [] (vCons (vVar 1) (vCons (vC (.str "kept")) (vCons (vBin fIx (vVar 0) (vC (.int 1))) vNil)))))
  (vRet (vAndV (vBin (fIsN true) (vVar 3) (vC .none)) (vBin fLtD (vBin fSub (vVar 2) (vBin fIx (vVar 0) (vC (.int 2)))) (vBin fIx (vVar 3) (vC (.int 2)))))))
def m_is_kept : TF := vDef 4 t_is_kept
theorem e_is_kept : m_is_kept = vDef 4 b_is_kept_1 := rfl
set_option maxHeartbeats 4000000 in
theorem ok_is_kept (T : Txt K mg w) : GOk P w K mg base CX0 2 T.a_is_kept T.fd_is_kept ["row", "rules", "tick"] (spOf K 3 0 m_is_kept) := by
  refine def_bodyD T.F_is_kept sc_is_kept fun f cdv A outer s H E hr gd => ?_
  exact ex_k (vss_cons (vs_asg (fun te he => ps_set (i := 3) sc_is_kept.nd rfl (Or.inl rfl) he) (ve_call (fun ta ha => gp_call (ok_rule_of T) (hr.mono (by omega)) gd (by rfl) T.g_rule_of T.F_rule_of.kp (bi_rule_of T) .nil pass0 ha) (fun _ _ => .nil) (va_cons (ve_var (pv 1)) (va_cons ve_str (va_cons (ve_ix ix_seq ops_ix (ve_var (pv 0)) ve_int (fun _ _ => rfl)) va_nil (by rfl)) (by rfl)) (by rfl))))
  (vss_one (vs_ret (ve_and (ve_cmp op_notN ops_notN (ve_var (pv 3)) ve_non (nomark _)) (ve_one (ve_cmp (op_ltAll hr) ops_ltAll (ve_bin op_subA ops_sub (ve_var (pv 2)) (ve_ix ix_seq ops_ix (ve_var (pv 0)) ve_int (fun _ _ => rfl))) (ve_ix ix_seq ops_ix (ve_var (pv 3)) ve_int (fun _ _ => rfl)) (nomark _))))))) (by omega)
def t_is_stray : TVS := (vRet (vAndV (vBin (fEq true) (vBin fIx (vVar 0) (vC (.int 1))) (vVar 2)) (vBin (fIsN true) (vCall 3 m_rule_of [] (vCons (vVar 1) (vCons (vC (.str "stay")) (vCons (vBin fIx (vVar 0) (vC (.int 1))) vNil)))) (vC .none))))
def m_is_stray : TF := vDef 3 t_is_stray
theorem e_is_stray : m_is_stray = vDef 3 (vRet (vAndV (vBin (fEq true) (vBin fIx (vVar 0) (vC (.int 1))) (vVar 2)) (vBin (fIsN true) (vCall 3 m_rule_of [] (vCons (vVar 1) (vCons (vC (.str "stay")) (vCons (vBin fIx (vVar 0) (vC (.int 1))) vNil)))) (vC .none)))) := rfl
set_option maxHeartbeats 4000000 in
theorem ok_is_stray (T : Txt K mg w) : GOk P w K mg base CX0 2 T.a_is_stray T.fd_is_stray ["row", "rules", "land"] (spOf K 3 0 m_is_stray) := by
  refine def_bodyD T.F_is_stray sc_is_stray fun f cdv A outer s H E hr gd => ?_
  exact ex_k (vss_one (vs_ret (ve_and (ve_cmp (op_neAll (hu64 hr)) ops_ne (ve_ix ix_seq ops_ix (ve_var (pv 0)) ve_int (fun _ _ => rfl)) (ve_var (pv 2)) (nomark _)) (ve_one (ve_cmp op_notN ops_notN (ve_call (fun ta ha => gp_call (ok_rule_of T) (hr.mono (by omega)) gd (by rfl) T.g_rule_of T.F_rule_of.kp (bi_rule_of T) .nil pass0 ha) (fun _ _ => .nil) (va_cons (ve_var (pv 1)) (va_cons ve_str (va_cons (ve_ix ix_seq ops_ix (ve_var (pv 0)) ve_int (fun _ _ => rfl)) va_nil (by rfl)) (by rfl)) (by rfl))) ve_non (nomark _)))))) (by omega)
def t_row_put : TVS := (vRet (vTup (vCons (vBin fIx (vCall 2 m_table_in [] (vCons (vVar 0) (vCons (vBin fIx (vVar 1) (vC (.int 1))) vNil))) (vC (.int 1))) (vCons (vBin fIx (vVar 1) (vC (.int 2))) (vCons (vVar 2) (vCons (vBin fIx (vVar 1) (vC (.int 3))) vNil))))))
def m_row_put : TF := vDef 3 t_row_put
theorem e_row_put : m_row_put = vDef 3 (vRet (vTup (vCons (vBin fIx (vCall 2 m_table_in [] (vCons (vVar 0) (vCons (vBin fIx (vVar 1) (vC (.int 1))) vNil))) (vC (.int 1))) (vCons (vBin fIx (vVar 1) (vC (.int 2))) (vCons (vVar 2) (vCons (vBin fIx (vVar 1) (vC (.int 3))) vNil)))))) := rfl
set_option maxHeartbeats 4000000 in
theorem ok_row_put (T : Txt K mg w) : GOk P w K mg base CX0 2 T.a_row_put T.fd_row_put ["store", "deed", "tick"] (spOf K 3 0 m_row_put) := by
  refine def_bodyD T.F_row_put sc_row_put fun f cdv A outer s H E hr gd => ?_
  exact ex_k (vss_one (vs_ret (ve_tup (va_cons (ve_ix ix_seq ops_ix (ve_call (fun ta ha => gp_call (ok_table_in T) (hr.mono (by omega)) gd (by rfl) T.g_table_in T.F_table_in.kp (bi_table_in T) .nil pass0 ha) (fun _ _ => .nil) (va_cons (ve_var (pv 0)) (va_cons (ve_ix ix_seq ops_ix (ve_var (pv 1)) ve_int (fun _ _ => rfl)) va_nil (by rfl)) (by rfl))) ve_int (fun _ _ => rfl)) (va_cons (ve_ix ix_seq ops_ix (ve_var (pv 1)) ve_int (fun _ _ => rfl)) (va_cons (ve_var (pv 2)) (va_cons (ve_ix ix_seq ops_ix (ve_var (pv 1)) ve_int (fun _ _ => rfl)) va_nil (by rfl)) (by rfl)) (by rfl)) (by rfl))))) (by omega)
def b_index_done_0 : TVS := (vRet (vTup (vCons (vCall 2 m_with_table [] (vCons (vVar 0) (vCons (vTup (vCons (vVar 2) (vCons (vVar 3) (vCons (vVar 4) (vCons (vCB fTuple (vCons (vSortSet (vBin fAdd (vVar 5) (vTup (vCons (vBin fIx (vVar 1) (vC (.int 2))) vNil)))) vNil)) vNil))))) vNil))) (vCons (vC (.bool true)) vNil))))
def b_index_done_1 : TVS := (vSeq (vAsgT (vCall 2 m_table_in [] (vCons (vVar 0) (vCons (vBin fIx (vVar 1) (vC (.int 1))) vNil))) (vgTup 4 (vgCons (vgName 2) (vgCons (vgName 3) (vgCons (vgName 4) (vgCons (vgName 5) vgNil))))))
  b_index_done_0)
def t_index_done : TVS := (vSeq (vAsgT (vCall 2 m_table_in [] (vCons (vVar 0) (vCons (vBin fIx (vVar 1) (vC (.int 1))) vNil))) (vgTup 4 (vgCons (vgName 2) (vgCons (vgName 3) (vgCons (vgName 4) (vgCons (vgName 5) vgNil))))))
  (vRet (vTup (vCons (vCall 2 m_with_table [] (vCons (vVar 0) (vCons (vTup (vCons (vVar 2) (vCons (vVar 3) (vCons (vVar 4) (vCons (vCB fTuple (vCons (vSortSet (vBin fAdd (vVar 5) (vTup (vCons (vBin fIx (vVar 1) (vC (.int 2))) vNil)))) vNil)) vNil))))) vNil))) (vCons (vC (.bool true)) vNil)))))
def m_index_done : TF := vDef 6 t_index_done
theorem e_index_done : m_index_done = vDef 6 b_index_done_1 := rfl
set_option maxHeartbeats 4000000 in
theorem ok_index_done (T : Txt K mg w) : GOk P w K mg base CX0 2 T.a_index_done T.fd_index_done ["store", "deed"] (spOf K 2 0 m_index_done) := by
  refine def_bodyD T.F_index_done sc_index_done fun f cdv A outer s H E hr gd => ?_
  exact ex_k (vss_cons (vs_asgT (fun _ _ a b => ps_asg a b) (ve_call (fun ta ha => gp_call (ok_table_in T) (hr.mono (by omega)) gd (by rfl) T.g_table_in T.F_table_in.kp (bi_table_in T) .nil pass0 ha) (fun _ _ => .nil) (va_cons (ve_var (pv 0)) (va_cons (ve_ix ix_seq ops_ix (ve_var (pv 1)) ve_int (fun _ _ => rfl)) va_nil (by rfl)) (by rfl))) (vtg_tup rfl (vtgs_cons (vtg_name (pg_name (i := 2) sc_index_done.nd rfl (Or.inl rfl))) (vtgs_cons (vtg_name (pg_name (i := 3) sc_index_done.nd rfl (Or.inl rfl))) (vtgs_cons (vtg_name (pg_name (i := 4) sc_index_done.nd rfl (Or.inl rfl))) (vtgs_cons (vtg_name (pg_name (i := 5) sc_index_done.nd rfl (Or.inl rfl))) vtgs_nil (fun _ _ a b => pgs_cons a b)) (fun _ _ a b => pgs_cons a b)) (fun _ _ a b => pgs_cons a b)) (fun _ _ a b => pgs_cons a b)) (by rfl) (by rfl)))
  (vss_one (vs_ret (ve_tup (va_cons (ve_call (fun ta ha => gp_call (ok_with_table T) (hr.mono (by omega)) gd (by rfl) T.g_with_table T.F_with_table.kp (bi_with_table T) .nil pass0 ha) (fun _ _ => .nil) (va_cons (ve_var (pv 0)) (va_cons (ve_tup (va_cons (ve_var (pv 2)) (va_cons (ve_var (pv 3)) (va_cons (ve_var (pv 4)) (va_cons (ve_cb (fun ta ha => pe_callTy call_tupOfN (by rfl) T.b_tuple (by decide +kernel) ha) cs_tuple (va_cons (ve_sortSet (fun te he => pe_callB (cr_sortedSet rfl) (by rfl) T.b_sorted (by decide +kernel) (pa_cons (pe_callTy (cr_setI rfl) (by rfl) T.b_set (by decide +kernel) (pa_cons he pa_nil)) pa_nil)) (ve_bin op_addAll ops_add (ve_var (pv 5)) (ve_tup (va_cons (ve_ix ix_seq ops_ix (ve_var (pv 1)) ve_int (fun _ _ => rfl)) va_nil (by rfl))))) va_nil (by rfl))) va_nil (by rfl)) (by rfl)) (by rfl)) (by rfl))) va_nil (by rfl)) (by rfl))) (va_cons ve_bl va_nil (by rfl)) (by rfl)))))) (by omega)
def t_law_any : TVS := (vRet (vBin fIx (vVar 1) (vCall 2 m_law_pick [] (vCons (vVar 0) (vCons (vCB fLen (vCons (vVar 1) vNil)) vNil)))))
def m_law_any : TF := vDef 2 t_law_any
theorem e_law_any : m_law_any = vDef 2 (vRet (vBin fIx (vVar 1) (vCall 2 m_law_pick [] (vCons (vVar 0) (vCons (vCB fLen (vCons (vVar 1) vNil)) vNil))))) := rfl
set_option maxHeartbeats 4000000 in
theorem ok_law_any (T : Txt K mg w) : GOk P w K mg base CX0 2 T.a_law_any T.fd_law_any ["_law_tape_here", "_law_lot"] (spOf K 2 1 m_law_any) := by
  refine def_bodyD T.F_law_any sc_law_any fun f cdv A outer s H E hr gd => ?_
  exact ex_k (vss_one (vs_ret (ve_ix ix_seq ops_ix (ve_var (pv 1)) (ve_call (fun ta ha => gp_call (ok_law_pick T) (hr.mono (by omega)) gd (by rfl) T.g_law_pick T.F_law_pick.kp (bi_law_pick T) .nil pass0 ha) (fun _ _ => .nil) (va_cons (ve_var (pv 0)) (va_cons (ve_cb (fun ta ha => pe_callB call_lenA (by rfl) T.b_len (by decide +kernel) ha) cs_len (va_cons (ve_var (pv 1)) va_nil (by rfl))) va_nil (by rfl)) (by rfl))) (fun _ _ => rfl)))) (by omega)
def b_law_rules_0 : TVS := (vRet (vCB fTuple (vCons (vVar 2) vNil)))
def b_law_rules_1 : TVS := (vSeq (vForL 100 (vSeqI (vCB fSorted (vCons (vVar 1) vNil))) (vgName 3)
  (vForL 100 (vSeqI (vTup (vCons (vC (.str "as")) (vCons (vC (.str "eu")) (vCons (vC (.str "us")) vNil))))) (vgName 4)
  (vIfS (vAnd (vTest (vBin (fEq false) (vCall 2 m_law_pick [] (vCons (vVar 0) (vCons (vC (.int 4)) vNil))) (vC (.int 0)))) (vTest (vBin fLtD (vCB fLen (vCons (vVar 2) vNil)) (vC (.int 6))))) (vAppend 2 (vBin fAdd (vTup (vCons (vVar 3) (vCons (vVar 4) vNil))) (vIf (vTest (vBin (fInD false) (vVar 3) (vTup (vCons (vC (.str "kept")) (vCons (vC (.str "struck")) vNil))))) (vTup (vCons (vBin fAdd (vC (.int 1)) (vCall 2 m_law_pick [] (vCons (vVar 0) (vCons (vC (.int 6)) vNil)))) vNil)) (vTup vNil)))) vNext)))
  b_law_rules_0)
def b_law_rules_2 : TVS := (vSeq (vAsgO 2 (vLst vNil))
  b_law_rules_1)
def t_law_rules : TVS := (vSeq (vAsgO 2 (vLst vNil))
  (vSeq (vForL 100 (vSeqI (vCB fSorted (vCons (vVar 1) vNil))) (vgName 3)
  (vForL 100 (vSeqI (vTup (vCons (vC (.str "as")) (vCons (vC (.str "eu")) (vCons (vC (.str "us")) vNil))))) (vgName 4)
  (vIfS (vAnd (vTest (vBin (fEq false) (vCall 2 m_law_pick [] (vCons (vVar 0) (vCons (vC (.int 4)) vNil))) (vC (.int 0)))) (vTest (vBin fLtD (vCB fLen (vCons (vVar 2) vNil)) (vC (.int 6))))) (vAppend 2 (vBin fAdd (vTup (vCons (vVar 3) (vCons (vVar 4) vNil))) (vIf (vTest (vBin (fInD false) (vVar 3) (vTup (vCons (vC (.str "kept")) (vCons (vC (.str "struck")) vNil))))) (vTup (vCons (vBin fAdd (vC (.int 1)) (vCall 2 m_law_pick [] (vCons (vVar 0) (vCons (vC (.int 6)) vNil)))) vNil)) (vTup vNil)))) vNext)))
  (vRet (vCB fTuple (vCons (vVar 2) vNil)))))
def m_law_rules : TF := vDef 5 t_law_rules
theorem e_law_rules : m_law_rules = vDef 5 b_law_rules_2 := rfl
set_option maxHeartbeats 4000000 in
theorem ok_law_rules (T : Txt K mg w) : GOk P w K mg base CX0 2 T.a_law_rules T.fd_law_rules ["_law_tape_here", "_law_words"] (spOf K 2 20000 m_law_rules) := by
  refine def_bodyD T.F_law_rules sc_law_rules fun f cdv A outer s H E hr gd => ?_
  exact ex_k (vss_cons (vs_asgO (fun te he => ps_set (i := 2) sc_law_rules.nd rfl (Or.inl rfl) he) (ve_lst va_nil))
  (vss_cons (vs_forL 100 (fun _ _ _ a b c => ps_for PassesOwn.never rfl a b c) (vi_seq (ve_cb (fun ta ha => pe_callB (cr_sortedA hr) (by rfl) T.b_sorted (by decide +kernel) ha) cs_sorted (va_cons (ve_var (pv 1)) va_nil (by rfl)))) (vtg_name (pg_name (i := 3) sc_law_rules.nd rfl (Or.inl rfl)))
  (vss_one (vs_forL 100 (fun _ _ _ a b c => ps_for PassesOwn.never rfl a b c) (vi_seq (ve_tup (va_cons ve_str (va_cons ve_str (va_cons ve_str va_nil (by rfl)) (by rfl)) (by rfl)))) (vtg_name (pg_name (i := 4) sc_law_rules.nd rfl (Or.inl rfl)))
  (vss_one (vs_if (vw_pt (vw_and (vt_cmp (op_eqAll (hu64 hr)) ops_eq (ve_call (fun ta ha => gp_call (ok_law_pick T) (hr.mono (by omega)) gd (by rfl) T.g_law_pick T.F_law_pick.kp (bi_law_pick T) .nil pass0 ha) (fun _ _ => .nil) (va_cons (ve_var (pv 0)) (va_cons ve_int va_nil (by rfl)) (by rfl))) ve_int (nomark _)) (vw_one (vt_cmp (op_ltAll hr) ops_ltAll (ve_cb (fun ta ha => pe_callB call_lenA (by rfl) T.b_len (by decide +kernel) ha) cs_len (va_cons (ve_var (pv 2)) va_nil (by rfl))) ve_int (nomark _))))) (vss_one (vs_append (fun te he => ps_expr (pe_bm PySem.F.plainAttrs_list PySem.F.slot_list_append PySem.F.type_list_append mt_append (pv 2) (pa_cons he pa_nil))) (ve_bin op_addAll ops_add (ve_tup (va_cons (ve_var (pv 3)) (va_cons (ve_var (pv 4)) va_nil (by rfl)) (by rfl))) (ve_if (vt_cmp (op_in_sign.or (op_inD hr)) ops_inD (ve_var (pv 3)) (ve_tup (va_cons ve_str (va_cons ve_str va_nil (by rfl)) (by rfl))) (by rfl)) (ve_tup (va_cons (ve_bin op_addAll ops_add ve_int (ve_call (fun ta ha => gp_call (ok_law_pick T) (hr.mono (by omega)) gd (by rfl) T.g_law_pick T.F_law_pick.kp (bi_law_pick T) .nil pass0 ha) (fun _ _ => .nil) (va_cons (ve_var (pv 0)) (va_cons ve_int va_nil (by rfl)) (by rfl)))) va_nil (by rfl))) (ve_tup va_nil))))) vss_nil)))))
  (vss_one (vs_ret (ve_cb (fun ta ha => pe_callTy call_tupOfN (by rfl) T.b_tuple (by decide +kernel) ha) cs_tuple (va_cons (ve_var (pv 2)) va_nil (by rfl))))))) (by omega)
def b_law_breaks_0 : TVS := (vRet (vC .none))
def b_law_breaks_1 : TVS := (vSeq (vIfS (vAnd (vTest (vBin (fEq false) (vBin fIx (vVar 0) (vC (.int 0))) (vC (.str "put")))) (vTest (vCall 3 m_law_is_stray [] (vCons (vBin fIx (vVar 0) (vC (.int 2))) (vCons (vVar 2) (vCons (vVar 3) vNil)))))) (vRet (vTup (vCons (vBin fIx (vVar 0) (vC (.int 1))) (vCons (vVar 1) vNil)))) vNext)
  b_law_breaks_0)
def t_law_breaks : TVS := (vSeq (vIfS (vAnd (vTest (vBin (fEq false) (vBin fIx (vVar 0) (vC (.int 0))) (vC (.str "put")))) (vTest (vCall 3 m_law_is_stray [] (vCons (vBin fIx (vVar 0) (vC (.int 2))) (vCons (vVar 2) (vCons (vVar 3) vNil)))))) (vRet (vTup (vCons (vBin fIx (vVar 0) (vC (.int 1))) (vCons (vVar 1) vNil)))) vNext)
  (vRet (vC .none)))
def m_law_breaks : TF := vDef 4 t_law_breaks
theorem e_law_breaks : m_law_breaks = vDef 4 b_law_breaks_1 := rfl
set_option maxHeartbeats 4000000 in
theorem ok_law_breaks (T : Txt K mg w) : GOk P w K mg base CX0 2 T.a_law_breaks T.fd_law_breaks ["_law_deed_here", "_law_told", "_law_few", "_law_yonder"] (spOf K 4 0 m_law_breaks) := by
  refine def_bodyD T.F_law_breaks sc_law_breaks fun f cdv A outer s H E hr gd => ?_
  exact ex_k (vss_cons (vs_if (vw_pt (vw_and (vt_cmp (op_eqAll (hu64 hr)) ops_eq (ve_ix ix_seq ops_ix (ve_var (pv 0)) ve_int (fun _ _ => rfl)) ve_str (nomark _)) (vw_one (vt_val (ve_call (fun ta ha => gp_call (ok_law_is_stray T) (hr.mono (by omega)) gd (by rfl) T.g_law_is_stray T.F_law_is_stray.kp (bi_law_is_stray T) .nil pass0 ha) (fun _ _ => .nil) (va_cons (ve_ix ix_seq ops_ix (ve_var (pv 0)) ve_int (fun _ _ => rfl)) (va_cons (ve_var (pv 2)) (va_cons (ve_var (pv 3)) va_nil (by rfl)) (by rfl)) (by rfl))) (by intro _; rfl))))) (vss_one (vs_ret (ve_tup (va_cons (ve_ix ix_seq ops_ix (ve_var (pv 0)) ve_int (fun _ _ => rfl)) (va_cons (ve_var (pv 1)) va_nil (by rfl)) (by rfl))))) vss_nil)
  (vss_one (vs_ret ve_non))) (by omega)
def t_is_link : TVS := (vRet (vAndV (vCall 2 m_is_tuple_of [] (vCons (vVar 0) (vCons (vC (.int 3)) vNil))) (vAndV (vBin (fEq false) (vBin fIx (vVar 0) (vC (.int 0))) (vC (.str "link"))) (vAndV (vCall 1 m_is_word [] (vCons (vBin fIx (vVar 0) (vC (.int 1))) vNil)) (vCall 1 m_is_number [] (vCons (vBin fIx (vVar 0) (vC (.int 2))) vNil))))))
def m_is_link : TF := vDef 1 t_is_link
theorem e_is_link : m_is_link = vDef 1 (vRet (vAndV (vCall 2 m_is_tuple_of [] (vCons (vVar 0) (vCons (vC (.int 3)) vNil))) (vAndV (vBin (fEq false) (vBin fIx (vVar 0) (vC (.int 0))) (vC (.str "link"))) (vAndV (vCall 1 m_is_word [] (vCons (vBin fIx (vVar 0) (vC (.int 1))) vNil)) (vCall 1 m_is_number [] (vCons (vBin fIx (vVar 0) (vC (.int 2))) vNil)))))) := rfl
set_option maxHeartbeats 4000000 in
theorem ok_is_link (T : Txt K mg w) : GOk P w K mg base CX0 3 T.a_is_link T.fd_is_link ["thing"] (spOf K 1 0 m_is_link) := by
  refine def_bodyD T.F_is_link sc_is_link fun f cdv A outer s H E hr gd => ?_
  exact ex_k (vss_one (vs_ret (ve_and (ve_call (fun ta ha => gp_call (ok_is_tuple_of T) (hr.mono (by omega)) gd (by rfl) T.g_is_tuple_of T.F_is_tuple_of.kp (bi_is_tuple_of T) .nil pass0 ha) (fun _ _ => .nil) (va_cons (ve_var (pv 0)) (va_cons ve_int va_nil (by rfl)) (by rfl))) (ve_and (ve_cmp (op_eqAll (hu64 hr)) ops_eq (ve_ix ix_seq ops_ix (ve_var (pv 0)) ve_int (fun _ _ => rfl)) ve_str (nomark _)) (ve_and (ve_call (fun ta ha => gp_call (ok_is_word T) (hr.mono (by omega)) gd (by rfl) T.g_is_word T.F_is_word.kp (bi_is_word T) .nil pass0 ha) (fun _ _ => .nil) (va_cons (ve_ix ix_seq ops_ix (ve_var (pv 0)) ve_int (fun _ _ => rfl)) va_nil (by rfl))) (ve_one (ve_call (fun ta ha => gp_call (ok_is_number T) (hr.mono (by omega)) gd (by rfl) T.g_is_number T.F_is_number.kp (bi_is_number T) .nil pass0 ha) (fun _ _ => .nil) (va_cons (ve_ix ix_seq ops_ix (ve_var (pv 0)) ve_int (fun _ _ => rfl)) va_nil (by rfl))))))))) (by omega)
def b_row_of_0 : TVS := (vRet (vC .none))
def b_row_of_1 : TVS := (vSeq (vFor (vSeqI (vCall 2 m_rows_of [] (vCons (vVar 0) (vCons (vVar 1) vNil)))) (vgName 3)
  (vIfS (vTest (vBin (fEq false) (vBin fIx (vVar 3) (vC (.int 0))) (vVar 2))) (vRet (vVar 3)) vNext))
  b_row_of_0)
def b_row_of_2 : TVS := (vSeq (vIfS (vNotT (vTest (vCall 1 m_is_number [] (vCons (vVar 2) vNil)))) (vRet (vC .none)) vNext)
  b_row_of_1)
def t_row_of : TVS := (vSeq (vIfS (vNotT (vTest (vCall 1 m_is_number [] (vCons (vVar 2) vNil)))) (vRet (vC .none)) vNext)
  (vSeq (vFor (vSeqI (vCall 2 m_rows_of [] (vCons (vVar 0) (vCons (vVar 1) vNil)))) (vgName 3)
  (vIfS (vTest (vBin (fEq false) (vBin fIx (vVar 3) (vC (.int 0))) (vVar 2))) (vRet (vVar 3)) vNext))
  (vRet (vC .none))))
def m_row_of : TF := vDef 4 t_row_of
theorem e_row_of : m_row_of = vDef 4 b_row_of_2 := rfl
set_option maxHeartbeats 4000000 in
theorem ok_row_of (T : Txt K mg w) : GOk P w K mg base CX0 3 T.a_row_of T.fd_row_of ["store", "table", "id_told"] (spOf K 3 0 m_row_of) := by
  refine def_bodyD T.F_row_of sc_row_of fun f cdv A outer s H E hr gd => ?_
  exact ex_k (vss_cons (vs_if (vt_not (vt_val (ve_call (fun ta ha => gp_call (ok_is_number T) (hr.mono (by omega)) gd (by rfl) T.g_is_number T.F_is_number.kp (bi_is_number T) .nil pass0 ha) (fun _ _ => .nil) (va_cons (ve_var (pv 2)) va_nil (by rfl))) (by intro _; rfl))) (vss_one (vs_ret ve_non)) vss_nil)
  (vss_cons (vs_for (fun _ _ _ a b c => ps_for PassesOwn.never rfl a b c) (vi_seq (ve_call (fun ta ha => gp_call (ok_rows_of T) (hr.mono (by omega)) gd (by rfl) T.g_rows_of T.F_rows_of.kp (bi_rows_of T) .nil pass0 ha) (fun _ _ => .nil) (va_cons (ve_var (pv 0)) (va_cons (ve_var (pv 1)) va_nil (by rfl)) (by rfl)))) (vtg_name (pg_name (i := 3) sc_row_of.nd rfl (Or.inl rfl)))
  (vss_one (vs_if (vt_cmp (op_eqAll (hu64 hr)) ops_eq (ve_ix ix_seq ops_ix (ve_var (pv 3)) ve_int (fun _ _ => rfl)) (ve_var (pv 2)) (nomark _)) (vss_one (vs_ret (ve_var (pv 3)))) vss_nil)))
  (vss_one (vs_ret ve_non)))) (by omega)
def b_broken_by_0 : TVS := (vRet (vIf (vTest (vCallK 1 2 3 m_is_stray (vCons (vVar 4) vNil) (vCons (vVar 3) (vCons (vVar 2) vNil)))) (vTup (vCons (vBin fIx (vVar 0) (vC (.int 1))) (vCons (vVar 1) vNil))) (vC .none)))
def b_broken_by_1 : TVS := (vSeq (vAsg 4 (vTup (vCons (vVar 1) (vCons (vBin fIx (vVar 0) (vC (.int 2))) (vCons (vC (.int 0)) (vCons (vBin fIx (vVar 0) (vC (.int 3))) vNil))))))
  b_broken_by_0)
def b_broken_by_2 : TVS := (vSeq (vIfS (vOr (vTest (vBin (fEq true) (vBin fIx (vVar 0) (vC (.int 0))) (vC (.str "put")))) (vTest (vCall 1 m_is_refusal [] (vCons (vVar 1) vNil)))) (vRet (vC .none)) vNext)
  b_broken_by_1)
def t_broken_by : TVS := (vSeq (vIfS (vOr (vTest (vBin (fEq true) (vBin fIx (vVar 0) (vC (.int 0))) (vC (.str "put")))) (vTest (vCall 1 m_is_refusal [] (vCons (vVar 1) vNil)))) (vRet (vC .none)) vNext)
  (vSeq (vAsg 4 (vTup (vCons (vVar 1) (vCons (vBin fIx (vVar 0) (vC (.int 2))) (vCons (vC (.int 0)) (vCons (vBin fIx (vVar 0) (vC (.int 3))) vNil))))))
  (vRet (vIf (vTest (vCallK 1 2 3 m_is_stray (vCons (vVar 4) vNil) (vCons (vVar 3) (vCons (vVar 2) vNil)))) (vTup (vCons (vBin fIx (vVar 0) (vC (.int 1))) (vCons (vVar 1) vNil))) (vC .none)))))
def m_broken_by : TF := vDef 5 t_broken_by
theorem e_broken_by : m_broken_by = vDef 5 b_broken_by_2 := rfl
set_option maxHeartbeats 4000000 in
theorem ok_broken_by (T : Txt K mg w) : GOk P w K mg base CX0 3 T.a_broken_by T.fd_broken_by ["deed", "answer", "land", "rules"] (spOf K 4 0 m_broken_by) := by
  refine def_bodyD T.F_broken_by sc_broken_by fun f cdv A outer s H E hr gd => ?_
  exact ex_k (vss_cons (vs_if (vw_pt (vw_or (vt_cmp (op_neAll (hu64 hr)) ops_ne (ve_ix ix_seq ops_ix (ve_var (pv 0)) ve_int (fun _ _ => rfl)) ve_str (nomark _)) (vw_one (vt_val (ve_call (fun ta ha => gp_call (ok_is_refusal T) (hr.mono (by omega)) gd (by rfl) T.g_is_refusal T.F_is_refusal.kp (bi_is_refusal T) .nil pass0 ha) (fun _ _ => .nil) (va_cons (ve_var (pv 1)) va_nil (by rfl))) (by intro _; rfl))))) (vss_one (vs_ret ve_non)) vss_nil)
  (vss_cons (vs_asg (fun te he => ps_set (i := 4) sc_broken_by.nd rfl (Or.inl rfl) he) (ve_tup (va_cons (ve_var (pv 1)) (va_cons (ve_ix ix_seq ops_ix (ve_var (pv 0)) ve_int (fun _ _ => rfl)) (va_cons ve_int (va_cons (ve_ix ix_seq ops_ix (ve_var (pv 0)) ve_int (fun _ _ => rfl)) va_nil (by rfl)) (by rfl)) (by rfl)) (by rfl))))
  (vss_one (vs_ret (ve_if (vt_val (ve_callK (fun ta tk ha hk => gp_callK (ok_is_stray T) (hr.mono (by omega)) gd (by rfl) T.g_is_stray T.F_is_stray.kp (kb_is_stray T) pass0 ha hk) (va_cons (ve_var (pv 4)) va_nil (by rfl)) (vk_cons (ve_var (pv 3)) (vk_cons (ve_var (pv 2)) vk_nil))) (by intro _; rfl)) (ve_tup (va_cons (ve_ix ix_seq ops_ix (ve_var (pv 0)) ve_int (fun _ _ => rfl)) (va_cons (ve_var (pv 1)) va_nil (by rfl)) (by rfl))) ve_non))))) (by omega)
def b_put_done_0 : TVS := (vRet (vTup (vCons (vCall 2 m_with_table [] (vCons (vVar 0) (vCons (vTup (vCons (vVar 3) (vCons (vBin fAdd (vVar 4) (vC (.int 1))) (vCons (vBin fAdd (vVar 5) (vTup (vCons (vCall 3 m_row_put [] (vCons (vVar 0) (vCons (vVar 1) (vCons (vVar 2) vNil)))) vNil))) (vCons (vVar 6) vNil))))) vNil))) (vCons (vVar 4) vNil))))
def b_put_done_1 : TVS := (vSeq (vAsgT (vCall 2 m_table_in [] (vCons (vVar 0) (vCons (vBin fIx (vVar 1) (vC (.int 1))) vNil))) (vgTup 4 (vgCons (vgName 3) (vgCons (vgName 4) (vgCons (vgName 5) (vgCons (vgName 6) vgNil))))))
  b_put_done_0)
def t_put_done : TVS := (vSeq (vAsgT (vCall 2 m_table_in [] (vCons (vVar 0) (vCons (vBin fIx (vVar 1) (vC (.int 1))) vNil))) (vgTup 4 (vgCons (vgName 3) (vgCons (vgName 4) (vgCons (vgName 5) (vgCons (vgName 6) vgNil))))))
  (vRet (vTup (vCons (vCall 2 m_with_table [] (vCons (vVar 0) (vCons (vTup (vCons (vVar 3) (vCons (vBin fAdd (vVar 4) (vC (.int 1))) (vCons (vBin fAdd (vVar 5) (vTup (vCons (vCall 3 m_row_put [] (vCons (vVar 0) (vCons (vVar 1) (vCons (vVar 2) vNil)))) vNil))) (vCons (vVar 6) vNil))))) vNil))) (vCons (vVar 4) vNil)))))
def m_put_done : TF := vDef 7 t_put_done
theorem e_put_done : m_put_done = vDef 7 b_put_done_1 := rfl
set_option maxHeartbeats 4000000 in
theorem ok_put_done (T : Txt K mg w) : GOk P w K mg base CX0 3 T.a_put_done T.fd_put_done ["store", "deed", "tick"] (spOf K 3 0 m_put_done) := by
  refine def_bodyD T.F_put_done sc_put_done fun f cdv A outer s H E hr gd => ?_
  exact ex_k (vss_cons (vs_asgT (fun _ _ a b => ps_asg a b) (ve_call (fun ta ha => gp_call (ok_table_in T) (hr.mono (by omega)) gd (by rfl) T.g_table_in T.F_table_in.kp (bi_table_in T) .nil pass0 ha) (fun _ _ => .nil) (va_cons (ve_var (pv 0)) (va_cons (ve_ix ix_seq ops_ix (ve_var (pv 1)) ve_int (fun _ _ => rfl)) va_nil (by rfl)) (by rfl))) (vtg_tup rfl (vtgs_cons (vtg_name (pg_name (i := 3) sc_put_done.nd rfl (Or.inl rfl))) (vtgs_cons (vtg_name (pg_name (i := 4) sc_put_done.nd rfl (Or.inl rfl))) (vtgs_cons (vtg_name (pg_name (i := 5) sc_put_done.nd rfl (Or.inl rfl))) (vtgs_cons (vtg_name (pg_name (i := 6) sc_put_done.nd rfl (Or.inl rfl))) vtgs_nil (fun _ _ a b => pgs_cons a b)) (fun _ _ a b => pgs_cons a b)) (fun _ _ a b => pgs_cons a b)) (fun _ _ a b => pgs_cons a b)) (by rfl) (by rfl)))
  (vss_one (vs_ret (ve_tup (va_cons (ve_call (fun ta ha => gp_call (ok_with_table T) (hr.mono (by omega)) gd (by rfl) T.g_with_table T.F_with_table.kp (bi_with_table T) .nil pass0 ha) (fun _ _ => .nil) (va_cons (ve_var (pv 0)) (va_cons (ve_tup (va_cons (ve_var (pv 3)) (va_cons (ve_bin op_addAll ops_add (ve_var (pv 4)) ve_int) (va_cons (ve_bin op_addAll ops_add (ve_var (pv 5)) (ve_tup (va_cons (ve_call (fun ta ha => gp_call (ok_row_put T) (hr.mono (by omega)) gd (by rfl) T.g_row_put T.F_row_put.kp (bi_row_put T) .nil pass0 ha) (fun _ _ => .nil) (va_cons (ve_var (pv 0)) (va_cons (ve_var (pv 1)) (va_cons (ve_var (pv 2)) va_nil (by rfl)) (by rfl)) (by rfl))) va_nil (by rfl)))) (va_cons (ve_var (pv 6)) va_nil (by rfl)) (by rfl)) (by rfl)) (by rfl))) va_nil (by rfl)) (by rfl))) (va_cons (ve_var (pv 4)) va_nil (by rfl)) (by rfl)))))) (by omega)
def b_law_value_0 : TVS := (vRet (vBin fIx (vLst (vCons (vTup (vCons (vC (.str "said")) (vCons (vC (.str "ann")) vNil))) (vCons (vTup (vCons (vC (.str "said")) (vCons (vC (.str "")) vNil))) (vCons (vC .none) vNil)))) (vBin fSub (vVar 1) (vC (.int 5)))))
def b_law_value_1 : TVS := (vSeq (vIfS (vTest (vBin fLtD (vVar 1) (vC (.int 5)))) (vRet (vTup (vCons (vC (.str "link")) (vCons (vCall 2 m_law_any [] (vCons (vVar 0) (vCons (vLst (vCons (vC (.str "emp")) (vCons (vC (.str "dept")) vNil))) vNil))) (vCons (vCall 2 m_law_pick [] (vCons (vVar 0) (vCons (vC (.int 7)) vNil))) vNil))))) vNext)
  b_law_value_0)
def b_law_value_2 : TVS := (vSeq (vIfS (vTest (vBin fLtD (vVar 1) (vC (.int 3)))) (vRet (vBin fIx (vLst (vCons (vC (.int 0)) (vCons (vC (.int 7)) (vCons (vNeg (vC (.int 2))) (vCons (vBin fPow (vC (.int 10)) (vC (.int 9))) vNil))))) (vCall 2 m_law_pick [] (vCons (vVar 0) (vCons (vC (.int 4)) vNil))))) vNext)
  b_law_value_1)
def b_law_value_3 : TVS := (vSeq (vAsg 1 (vCall 2 m_law_pick [] (vCons (vVar 0) (vCons (vC (.int 8)) vNil))))
  b_law_value_2)
def t_law_value : TVS := (vSeq (vAsg 1 (vCall 2 m_law_pick [] (vCons (vVar 0) (vCons (vC (.int 8)) vNil))))
  (vSeq (vIfS (vTest (vBin fLtD (vVar 1) (vC (.int 3)))) (vRet (vBin fIx (vLst (vCons (vC (.int 0)) (vCons (vC (.int 7)) (vCons (vNeg (vC (.int 2))) (vCons (vBin fPow (vC (.int 10)) (vC (.int 9))) vNil))))) (vCall 2 m_law_pick [] (vCons (vVar 0) (vCons (vC (.int 4)) vNil))))) vNext)
  (vSeq (vIfS (vTest (vBin fLtD (vVar 1) (vC (.int 5)))) (vRet (vTup (vCons (vC (.str "link")) (vCons (vCall 2 m_law_any [] (vCons (vVar 0) (vCons (vLst (vCons (vC (.str "emp")) (vCons (vC (.str "dept")) vNil))) vNil))) (vCons (vCall 2 m_law_pick [] (vCons (vVar 0) (vCons (vC (.int 7)) vNil))) vNil))))) vNext)
  (vRet (vBin fIx (vLst (vCons (vTup (vCons (vC (.str "said")) (vCons (vC (.str "ann")) vNil))) (vCons (vTup (vCons (vC (.str "said")) (vCons (vC (.str "")) vNil))) (vCons (vC .none) vNil)))) (vBin fSub (vVar 1) (vC (.int 5))))))))
def m_law_value : TF := vDef 2 t_law_value
theorem e_law_value : m_law_value = vDef 2 b_law_value_3 := rfl
set_option maxHeartbeats 4000000 in
theorem ok_law_value (T : Txt K mg w) : GOk P w K mg base CX0 3 T.a_law_value T.fd_law_value ["_law_tape_here"] (spOf K 1 4 m_law_value) := by
  refine def_bodyD T.F_law_value sc_law_value fun f cdv A outer s H E hr gd => ?_
  exact ex_k (vss_cons (vs_asg (fun te he => ps_set (i := 1) sc_law_value.nd rfl (Or.inl rfl) he) (ve_call (fun ta ha => gp_call (ok_law_pick T) (hr.mono (by omega)) gd (by rfl) T.g_law_pick T.F_law_pick.kp (bi_law_pick T) .nil pass0 ha) (fun _ _ => .nil) (va_cons (ve_var (pv 0)) (va_cons ve_int va_nil (by rfl)) (by rfl))))
  (vss_cons (vs_if (vt_cmp (op_ltAll hr) ops_ltAll (ve_var (pv 1)) ve_int (nomark _)) (vss_one (vs_ret (ve_ix ix_seq ops_ix (ve_lst (va_cons ve_int (va_cons ve_int (va_cons (ve_neg ve_int) (va_cons (ve_bin op_pow ops_pow ve_int ve_int) va_nil (by rfl)) (by rfl)) (by rfl)) (by rfl))) (ve_call (fun ta ha => gp_call (ok_law_pick T) (hr.mono (by omega)) gd (by rfl) T.g_law_pick T.F_law_pick.kp (bi_law_pick T) .nil pass0 ha) (fun _ _ => .nil) (va_cons (ve_var (pv 0)) (va_cons ve_int va_nil (by rfl)) (by rfl))) (fun _ _ => rfl)))) vss_nil)
  (vss_cons (vs_if (vt_cmp (op_ltAll hr) ops_ltAll (ve_var (pv 1)) ve_int (nomark _)) (vss_one (vs_ret (ve_tup (va_cons ve_str (va_cons (ve_call (fun ta ha => gp_call (ok_law_any T) (hr.mono (by omega)) gd (by rfl) T.g_law_any T.F_law_any.kp (bi_law_any T) .nil pass0 ha) (fun _ _ => .nil) (va_cons (ve_var (pv 0)) (va_cons (ve_lst (va_cons ve_str (va_cons ve_str va_nil (by rfl)) (by rfl))) va_nil (by rfl)) (by rfl))) (va_cons (ve_call (fun ta ha => gp_call (ok_law_pick T) (hr.mono (by omega)) gd (by rfl) T.g_law_pick T.F_law_pick.kp (bi_law_pick T) .nil pass0 ha) (fun _ _ => .nil) (va_cons (ve_var (pv 0)) (va_cons ve_int va_nil (by rfl)) (by rfl))) va_nil (by rfl)) (by rfl)) (by rfl))))) vss_nil)
  (vss_one (vs_ret (ve_ix ix_seq ops_ix (ve_lst (va_cons (ve_tup (va_cons ve_str (va_cons ve_str va_nil (by rfl)) (by rfl))) (va_cons (ve_tup (va_cons ve_str (va_cons ve_str va_nil (by rfl)) (by rfl))) (va_cons ve_non va_nil (by rfl)) (by rfl)) (by rfl))) (ve_bin op_subA ops_sub (ve_var (pv 1)) ve_int) (fun _ _ => rfl))))))) (by omega)
def t_is_value : TVS := (vRet (vOrV (vBin (fIsN false) (vVar 0) (vC .none)) (vOrV (vCall 1 m_is_whole [] (vCons (vVar 0) vNil)) (vOrV (vCall 1 m_is_said [] (vCons (vVar 0) vNil)) (vCall 1 m_is_link [] (vCons (vVar 0) vNil))))))
def m_is_value : TF := vDef 1 t_is_value
theorem e_is_value : m_is_value = vDef 1 (vRet (vOrV (vBin (fIsN false) (vVar 0) (vC .none)) (vOrV (vCall 1 m_is_whole [] (vCons (vVar 0) vNil)) (vOrV (vCall 1 m_is_said [] (vCons (vVar 0) vNil)) (vCall 1 m_is_link [] (vCons (vVar 0) vNil)))))) := rfl
set_option maxHeartbeats 4000000 in
theorem ok_is_value (T : Txt K mg w) : GOk P w K mg base CX0 4 T.a_is_value T.fd_is_value ["thing"] (spOf K 1 0 m_is_value) := by
  refine def_bodyD T.F_is_value sc_is_value fun f cdv A outer s H E hr gd => ?_
  exact ex_k (vss_one (vs_ret (ve_or (ve_cmp op_isN ops_isN (ve_var (pv 0)) ve_non (nomark _)) (ve_or (ve_call (fun ta ha => gp_call (ok_is_whole T) (hr.mono (by omega)) gd (by rfl) T.g_is_whole T.F_is_whole.kp (bi_is_whole T) .nil pass0 ha) (fun _ _ => .nil) (va_cons (ve_var (pv 0)) va_nil (by rfl))) (ve_or (ve_call (fun ta ha => gp_call (ok_is_said T) (hr.mono (by omega)) gd (by rfl) T.g_is_said T.F_is_said.kp (bi_is_said T) .nil pass0 ha) (fun _ _ => .nil) (va_cons (ve_var (pv 0)) va_nil (by rfl))) (ve_one (ve_call (fun ta ha => gp_call (ok_is_link T) (hr.mono (by omega)) gd (by rfl) T.g_is_link T.F_is_link.kp (bi_is_link T) .nil pass0 ha) (fun _ _ => .nil) (va_cons (ve_var (pv 0)) va_nil (by rfl))))))))) (by omega)
def b_link_at_0 : TVS := (vRet (vSl (vBin fIx (vVar 2) (vVar 1)) (vSome (vC (.int 1))) (fun _ Q => Q none)))
def b_link_at_1 : TVS := (vSeq (vIfS (vOr (vTest (vBin fGeA (vVar 1) (vCB fLen (vCons (vVar 2) vNil)))) (vNotT (vTest (vCall 1 m_is_link [] (vCons (vBin fIx (vVar 2) (vVar 1)) vNil))))) (vRet (vC .none)) vNext)
  b_link_at_0)
def b_link_at_2 : TVS := (vSeq (vAsg 2 (vBin fIx (vVar 0) (vC (.int 3))))
  b_link_at_1)
def t_link_at : TVS := (vSeq (vAsg 2 (vBin fIx (vVar 0) (vC (.int 3))))
  (vSeq (vIfS (vOr (vTest (vBin fGeA (vVar 1) (vCB fLen (vCons (vVar 2) vNil)))) (vNotT (vTest (vCall 1 m_is_link [] (vCons (vBin fIx (vVar 2) (vVar 1)) vNil))))) (vRet (vC .none)) vNext)
  (vRet (vSl (vBin fIx (vVar 2) (vVar 1)) (vSome (vC (.int 1))) (fun _ Q => Q none)))))
def m_link_at : TF := vDef 3 t_link_at
theorem e_link_at : m_link_at = vDef 3 b_link_at_2 := rfl
set_option maxHeartbeats 4000000 in
theorem ok_link_at (T : Txt K mg w) : GOk P w K mg base CX0 4 T.a_link_at T.fd_link_at ["row", "k"] (spOf K 2 0 m_link_at) := by
  refine def_bodyD T.F_link_at sc_link_at fun f cdv A outer s H E hr gd => ?_
  exact ex_k (vss_cons (vs_asg (fun te he => ps_set (i := 2) sc_link_at.nd rfl (Or.inl rfl) he) (ve_ix ix_seq ops_ix (ve_var (pv 0)) ve_int (fun _ _ => rfl)))
  (vss_cons (vs_if (vw_pt (vw_or (vt_cmp (op_geAll hr) ops_geAll (ve_var (pv 1)) (ve_cb (fun ta ha => pe_callB call_lenA (by rfl) T.b_len (by decide +kernel) ha) cs_len (va_cons (ve_var (pv 2)) va_nil (by rfl))) (nomark _)) (vw_one (vt_not (vt_val (ve_call (fun ta ha => gp_call (ok_is_link T) (hr.mono (by omega)) gd (by rfl) T.g_is_link T.F_is_link.kp (bi_is_link T) .nil pass0 ha) (fun _ _ => .nil) (va_cons (ve_ix ix_seq ops_ix (ve_var (pv 2)) (ve_var (pv 1)) (fun _ _ => rfl)) va_nil (by rfl))) (by intro _; rfl)))))) (vss_one (vs_ret ve_non)) vss_nil)
  (vss_one (vs_ret (ve_sl (ve_ix ix_seq ops_ix (ve_var (pv 2)) (ve_var (pv 1)) (fun _ _ => rfl)) (vo_some ve_int) vo_none))))) (by omega)
def b_row_done_0 : TVS := (vRet (vTup (vCons (vCall 2 m_with_table [] (vCons (vVar 0) (vCons (vTup (vCons (vVar 5) (vCons (vVar 6) (vCons (vBin fAdd (vBin fAdd (vSl (vVar 7) (fun _ Q => Q none) (vSome (vVar 3))) (vTup (vCons (vVar 4) vNil))) (vSl (vVar 7) (vSome (vBin fAdd (vVar 3) (vC (.int 1)))) (fun _ Q => Q none))) (vCons (vVar 8) vNil))))) vNil))) (vCons (vVar 10) vNil))))
def b_row_done_1 : TVS := (vSeq (vAsg 4 (vCall 3 m_row_turned [] (vCons (vVar 2) (vCons (vVar 9) (vCons (vVar 10) vNil)))))
  b_row_done_0)
def b_row_done_2 : TVS := (vSeq (vIfS (vTest (vBin (fEq false) (vBin fIx (vVar 1) (vC (.int 0))) (vC (.str "add")))) (vAug 10 (· + ·) (vBin fIx (vBin fIx (vVar 2) (vC (.int 3))) (vVar 9))) vNext)
  b_row_done_1)
def b_row_done_3 : TVS := (vSeq (vPar 9 10 (vCons (vBin fIx (vVar 1) (vC (.int 3))) (vCons (vBin fIx (vVar 1) (vC (.int 4))) vNil)))
  b_row_done_2)
def b_row_done_4 : TVS := (vSeq (vIfS (vTest (vBin (fEq false) (vBin fIx (vVar 1) (vC (.int 0))) (vC (.str "drop")))) (vRet (vTup (vCons (vCall 2 m_with_table [] (vCons (vVar 0) (vCons (vTup (vCons (vVar 5) (vCons (vVar 6) (vCons (vBin fAdd (vSl (vVar 7) (fun _ Q => Q none) (vSome (vVar 3))) (vSl (vVar 7) (vSome (vBin fAdd (vVar 3) (vC (.int 1)))) (fun _ Q => Q none))) (vCons (vVar 8) vNil))))) vNil))) (vCons (vC (.bool true)) vNil)))) vNext)
  b_row_done_3)
def b_row_done_5 : TVS := (vSeq (vAsg 3 (vTupIx (vVar 7) (vVar 2)))
  b_row_done_4)
def b_row_done_6 : TVS := (vSeq (vAsg 2 (vCall 3 m_row_of [] (vCons (vVar 0) (vCons (vVar 5) (vCons (vBin fIx (vVar 1) (vC (.int 2))) vNil)))))
  b_row_done_5)
def b_row_done_7 : TVS := (vSeq (vAsgT (vCall 2 m_table_in [] (vCons (vVar 0) (vCons (vBin fIx (vVar 1) (vC (.int 1))) vNil))) (vgTup 4 (vgCons (vgName 5) (vgCons (vgName 6) (vgCons (vgName 7) (vgCons (vgName 8) vgNil))))))
  b_row_done_6)
def t_row_done : TVS := (vSeq (vAsgT (vCall 2 m_table_in [] (vCons (vVar 0) (vCons (vBin fIx (vVar 1) (vC (.int 1))) vNil))) (vgTup 4 (vgCons (vgName 5) (vgCons (vgName 6) (vgCons (vgName 7) (vgCons (vgName 8) vgNil))))))
  (vSeq (vAsg 2 (vCall 3 m_row_of [] (vCons (vVar 0) (vCons (vVar 5) (vCons (vBin fIx (vVar 1) (vC (.int 2))) vNil)))))
  (vSeq (vAsg 3 (vTupIx (vVar 7) (vVar 2)))
  (vSeq (vIfS (vTest (vBin (fEq false) (vBin fIx (vVar 1) (vC (.int 0))) (vC (.str "drop")))) (vRet (vTup (vCons (vCall 2 m_with_table [] (vCons (vVar 0) (vCons (vTup (vCons (vVar 5) (vCons (vVar 6) (vCons (vBin fAdd (vSl (vVar 7) (fun _ Q => Q none) (vSome (vVar 3))) (vSl (vVar 7) (vSome (vBin fAdd (vVar 3) (vC (.int 1)))) (fun _ Q => Q none))) (vCons (vVar 8) vNil))))) vNil))) (vCons (vC (.bool true)) vNil)))) vNext)
  (vSeq (vPar 9 10 (vCons (vBin fIx (vVar 1) (vC (.int 3))) (vCons (vBin fIx (vVar 1) (vC (.int 4))) vNil)))
  (vSeq (vIfS (vTest (vBin (fEq false) (vBin fIx (vVar 1) (vC (.int 0))) (vC (.str "add")))) (vAug 10 (· + ·) (vBin fIx (vBin fIx (vVar 2) (vC (.int 3))) (vVar 9))) vNext)
  (vSeq (vAsg 4 (vCall 3 m_row_turned [] (vCons (vVar 2) (vCons (vVar 9) (vCons (vVar 10) vNil)))))
  (vRet (vTup (vCons (vCall 2 m_with_table [] (vCons (vVar 0) (vCons (vTup (vCons (vVar 5) (vCons (vVar 6) (vCons (vBin fAdd (vBin fAdd (vSl (vVar 7) (fun _ Q => Q none) (vSome (vVar 3))) (vTup (vCons (vVar 4) vNil))) (vSl (vVar 7) (vSome (vBin fAdd (vVar 3) (vC (.int 1)))) (fun _ Q => Q none))) (vCons (vVar 8) vNil))))) vNil))) (vCons (vVar 10) vNil)))))))))))
def m_row_done : TF := vDef 11 t_row_done
theorem e_row_done : m_row_done = vDef 11 b_row_done_7 := rfl
set_option maxHeartbeats 4000000 in
theorem ok_row_done (T : Txt K mg w) : GOk P w K mg base CX0 4 T.a_row_done T.fd_row_done ["store", "deed"] (spOf K 2 0 m_row_done) := by
  refine def_bodyD T.F_row_done sc_row_done fun f cdv A outer s H E hr gd => ?_
  exact ex_k (vss_cons (vs_asgT (fun _ _ a b => ps_asg a b) (ve_call (fun ta ha => gp_call (ok_table_in T) (hr.mono (by omega)) gd (by rfl) T.g_table_in T.F_table_in.kp (bi_table_in T) .nil pass0 ha) (fun _ _ => .nil) (va_cons (ve_var (pv 0)) (va_cons (ve_ix ix_seq ops_ix (ve_var (pv 1)) ve_int (fun _ _ => rfl)) va_nil (by rfl)) (by rfl))) (vtg_tup rfl (vtgs_cons (vtg_name (pg_name (i := 5) sc_row_done.nd rfl (Or.inl rfl))) (vtgs_cons (vtg_name (pg_name (i := 6) sc_row_done.nd rfl (Or.inl rfl))) (vtgs_cons (vtg_name (pg_name (i := 7) sc_row_done.nd rfl (Or.inl rfl))) (vtgs_cons (vtg_name (pg_name (i := 8) sc_row_done.nd rfl (Or.inl rfl))) vtgs_nil (fun _ _ a b => pgs_cons a b)) (fun _ _ a b => pgs_cons a b)) (fun _ _ a b => pgs_cons a b)) (fun _ _ a b => pgs_cons a b)) (by rfl) (by rfl)))
  (vss_cons (vs_asg (fun te he => ps_set (i := 2) sc_row_done.nd rfl (Or.inl rfl) he) (ve_call (fun ta ha => gp_call (ok_row_of T) (hr.mono (by omega)) gd (by rfl) T.g_row_of T.F_row_of.kp (bi_row_of T) .nil pass0 ha) (fun _ _ => .nil) (va_cons (ve_var (pv 0)) (va_cons (ve_var (pv 5)) (va_cons (ve_ix ix_seq ops_ix (ve_var (pv 1)) ve_int (fun _ _ => rfl)) va_nil (by rfl)) (by rfl)) (by rfl))))
  (vss_cons (vs_asg (fun te he => ps_set (i := 3) sc_row_done.nd rfl (Or.inl rfl) he) (ve_tupIx (fun te ti he hi => pe_bmN PySem.F.plainAttrs_tuple PySem.F.slot_tuple_index PySem.F.type_tuple_index (mt_tupIx (hu64 hr)) he (pa_cons hi pa_nil)) (ve_var (pv 7)) (ve_var (pv 2))))
  (vss_cons (vs_if (vt_cmp (op_eqAll (hu64 hr)) ops_eq (ve_ix ix_seq ops_ix (ve_var (pv 1)) ve_int (fun _ _ => rfl)) ve_str (nomark _)) (vss_one (vs_ret (ve_tup (va_cons (ve_call (fun ta ha => gp_call (ok_with_table T) (hr.mono (by omega)) gd (by rfl) T.g_with_table T.F_with_table.kp (bi_with_table T) .nil pass0 ha) (fun _ _ => .nil) (va_cons (ve_var (pv 0)) (va_cons (ve_tup (va_cons (ve_var (pv 5)) (va_cons (ve_var (pv 6)) (va_cons (ve_bin op_addAll ops_add (ve_sl (ve_var (pv 7)) vo_none (vo_some (ve_var (pv 3)))) (ve_sl (ve_var (pv 7)) (vo_some (ve_bin op_addAll ops_add (ve_var (pv 3)) ve_int)) vo_none)) (va_cons (ve_var (pv 8)) va_nil (by rfl)) (by rfl)) (by rfl)) (by rfl))) va_nil (by rfl)) (by rfl))) (va_cons ve_bl va_nil (by rfl)) (by rfl))))) vss_nil)
  (vss_cons (vs_par (fun ta ha => ps_par (by rfl) sc_row_done.nd rfl rfl (by decide) rfl rfl ha (by rfl)) (va_cons (ve_ix ix_seq ops_ix (ve_var (pv 1)) ve_int (fun _ _ => rfl)) (va_cons (ve_ix ix_seq ops_ix (ve_var (pv 1)) ve_int (fun _ _ => rfl)) va_nil (by rfl)) (by rfl)))
  (vss_cons (vs_if (vt_cmp (op_eqAll (hu64 hr)) ops_eq (ve_ix ix_seq ops_ix (ve_var (pv 1)) ve_int (fun _ _ => rfl)) ve_str (nomark _)) (vss_one (vs_aug (f := (· + ·)) (fun te he => ps_aug (i := 10) sc_row_done.nd rfl (Or.inl rfl) he ip_add) (ve_ix ix_seq ops_ix (ve_ix ix_seq ops_ix (ve_var (pv 2)) ve_int (fun _ _ => rfl)) (ve_var (pv 9)) (fun _ _ => rfl)))) vss_nil)
  (vss_cons (vs_asg (fun te he => ps_set (i := 4) sc_row_done.nd rfl (Or.inl rfl) he) (ve_call (fun ta ha => gp_call (ok_row_turned T) (hr.mono (by omega)) gd (by rfl) T.g_row_turned T.F_row_turned.kp (bi_row_turned T) .nil pass0 ha) (fun _ _ => .nil) (va_cons (ve_var (pv 2)) (va_cons (ve_var (pv 9)) (va_cons (ve_var (pv 10)) va_nil (by rfl)) (by rfl)) (by rfl))))
  (vss_one (vs_ret (ve_tup (va_cons (ve_call (fun ta ha => gp_call (ok_with_table T) (hr.mono (by omega)) gd (by rfl) T.g_with_table T.F_with_table.kp (bi_with_table T) .nil pass0 ha) (fun _ _ => .nil) (va_cons (ve_var (pv 0)) (va_cons (ve_tup (va_cons (ve_var (pv 5)) (va_cons (ve_var (pv 6)) (va_cons (ve_bin op_addAll ops_add (ve_bin op_addAll ops_add (ve_sl (ve_var (pv 7)) vo_none (vo_some (ve_var (pv 3)))) (ve_tup (va_cons (ve_var (pv 4)) va_nil (by rfl)))) (ve_sl (ve_var (pv 7)) (vo_some (ve_bin op_addAll ops_add (ve_var (pv 3)) ve_int)) vo_none)) (va_cons (ve_var (pv 8)) va_nil (by rfl)) (by rfl)) (by rfl)) (by rfl))) va_nil (by rfl)) (by rfl))) (va_cons (ve_var (pv 10)) va_nil (by rfl)) (by rfl)))))))))))) (by omega)
def b_law_deed_0 : TVS := (vRet (vTup (vCons (vC (.str "put")) (vCons (vVar 2) (vCons (vCall 2 m_law_any [] (vCons (vVar 0) (vCons (vLst (vCons (vC (.str "eu")) (vCons (vC (.str "us")) (vCons (vC (.str "as")) (vCons (vC (.str "eu")) vNil))))) vNil))) (vCons (vVar 6) vNil))))))
def b_law_deed_1 : TVS := (vSeq (vAsg 6 (vCB fTuple (vCons (vLcL 100 (vRng1 (vCons (vCall 2 m_law_pick [] (vCons (vVar 0) (vCons (vC (.int 5)) vNil))) vNil)) (vgName 8) (fun _ Q => Q true) (vCall 1 m_law_value [] (vCons (vVar 0) vNil)) [8]) vNil)))
  b_law_deed_0)
def b_law_deed_2 : TVS := (vRet (vIf (vTest (vBin fLtD (vVar 4) (vC (.int 11)))) (vTup (vCons (vC (.str "drop")) (vCons (vVar 2) (vCons (vVar 5) vNil)))) (vTup (vCons (vC (.str "index")) (vCons (vVar 2) (vCons (vCall 2 m_law_pick [] (vCons (vVar 0) (vCons (vC (.int 3)) vNil))) vNil))))))
def b_law_deed_3 : TVS := (vSeq (vIfS (vTest (vBin (fEq false) (vVar 4) (vC (.int 8)))) (vRet (vTup (vCons (vC (.str "add")) (vCons (vVar 2) (vCons (vVar 5) (vCons (vCall 2 m_law_pick [] (vCons (vVar 0) (vCons (vC (.int 4)) vNil))) (vCons (vBin fSub (vCall 2 m_law_pick [] (vCons (vVar 0) (vCons (vC (.int 7)) vNil))) (vC (.int 3))) vNil))))))) vNext)
  b_law_deed_2)
def b_law_deed_4 : TVS := (vSeq (vIfS (vTest (vBin fLtD (vVar 4) (vC (.int 8)))) (vRet (vTup (vCons (vC (.str "set")) (vCons (vVar 2) (vCons (vVar 5) (vCons (vCall 2 m_law_pick [] (vCons (vVar 0) (vCons (vC (.int 4)) vNil))) (vCons (vCall 1 m_law_value [] (vCons (vVar 0) vNil)) vNil))))))) vNext)
  b_law_deed_3)
def b_law_deed_5 : TVS := (vSeq (vIfS (vTest (vBin fLtD (vVar 4) (vC (.int 6)))) b_law_deed_1 vNext)
  b_law_deed_4)
def b_law_deed_6 : TVS := (vSeq (vPar 4 5 (vCons (vCall 2 m_law_pick [] (vCons (vVar 0) (vCons (vC (.int 12)) vNil))) (vCons (vCall 2 m_law_pick [] (vCons (vVar 0) (vCons (vBin fAdd (vVar 3) (vC (.int 1))) vNil))) vNil)))
  b_law_deed_5)
def b_law_deed_7 : TVS := (vSeq (vAsg 3 (vMaxD (0) (vLc (vSeqI (vVar 1)) (vgName 7) (vTest (vBin (fEq false) (vBin fIx (vVar 7) (vC (.int 0))) (vVar 2))) (vBin fIx (vVar 7) (vC (.int 1))) [7])))
  b_law_deed_6)
def b_law_deed_8 : TVS := (vSeq (vAsg 2 (vCall 2 m_law_any [] (vCons (vVar 0) (vCons (vLst (vCons (vC (.str "emp")) (vCons (vC (.str "emp")) (vCons (vC (.str "dept")) (vCons (vC (.str "z")) vNil))))) vNil))))
  b_law_deed_7)
def t_law_deed : TVS := (vSeq (vAsg 2 (vCall 2 m_law_any [] (vCons (vVar 0) (vCons (vLst (vCons (vC (.str "emp")) (vCons (vC (.str "emp")) (vCons (vC (.str "dept")) (vCons (vC (.str "z")) vNil))))) vNil))))
  (vSeq (vAsg 3 (vMaxD (0) (vLc (vSeqI (vVar 1)) (vgName 7) (vTest (vBin (fEq false) (vBin fIx (vVar 7) (vC (.int 0))) (vVar 2))) (vBin fIx (vVar 7) (vC (.int 1))) [7])))
  (vSeq (vPar 4 5 (vCons (vCall 2 m_law_pick [] (vCons (vVar 0) (vCons (vC (.int 12)) vNil))) (vCons (vCall 2 m_law_pick [] (vCons (vVar 0) (vCons (vBin fAdd (vVar 3) (vC (.int 1))) vNil))) vNil)))
  (vSeq (vIfS (vTest (vBin fLtD (vVar 4) (vC (.int 6)))) (vSeq (vAsg 6 (vCB fTuple (vCons (vLcL 100 (vRng1 (vCons (vCall 2 m_law_pick [] (vCons (vVar 0) (vCons (vC (.int 5)) vNil))) vNil)) (vgName 8) (fun _ Q => Q true) (vCall 1 m_law_value [] (vCons (vVar 0) vNil)) [8]) vNil)))
  (vRet (vTup (vCons (vC (.str "put")) (vCons (vVar 2) (vCons (vCall 2 m_law_any [] (vCons (vVar 0) (vCons (vLst (vCons (vC (.str "eu")) (vCons (vC (.str "us")) (vCons (vC (.str "as")) (vCons (vC (.str "eu")) vNil))))) vNil))) (vCons (vVar 6) vNil))))))) vNext)
  (vSeq (vIfS (vTest (vBin fLtD (vVar 4) (vC (.int 8)))) (vRet (vTup (vCons (vC (.str "set")) (vCons (vVar 2) (vCons (vVar 5) (vCons (vCall 2 m_law_pick [] (vCons (vVar 0) (vCons (vC (.int 4)) vNil))) (vCons (vCall 1 m_law_value [] (vCons (vVar 0) vNil)) vNil))))))) vNext)
  (vSeq (vIfS (vTest (vBin (fEq false) (vVar 4) (vC (.int 8)))) (vRet (vTup (vCons (vC (.str "add")) (vCons (vVar 2) (vCons (vVar 5) (vCons (vCall 2 m_law_pick [] (vCons (vVar 0) (vCons (vC (.int 4)) vNil))) (vCons (vBin fSub (vCall 2 m_law_pick [] (vCons (vVar 0) (vCons (vC (.int 7)) vNil))) (vC (.int 3))) vNil))))))) vNext)
  (vRet (vIf (vTest (vBin fLtD (vVar 4) (vC (.int 11)))) (vTup (vCons (vC (.str "drop")) (vCons (vVar 2) (vCons (vVar 5) vNil)))) (vTup (vCons (vC (.str "index")) (vCons (vVar 2) (vCons (vCall 2 m_law_pick [] (vCons (vVar 0) (vCons (vC (.int 3)) vNil))) vNil))))))))))))
def m_law_deed : TF := vDef 9 t_law_deed
theorem e_law_deed : m_law_deed = vDef 9 b_law_deed_8 := rfl
set_option maxHeartbeats 4000000 in
theorem ok_law_deed (T : Txt K mg w) : GOk P w K mg base CX0 4 T.a_law_deed T.fd_law_deed ["_law_tape_here", "_law_store"] (spOf K 2 413 m_law_deed) := by
  refine def_bodyD T.F_law_deed sc_law_deed fun f cdv A outer s H E hr gd => ?_
  exact ex_k (vss_cons (vs_asg (fun te he => ps_set (i := 2) sc_law_deed.nd rfl (Or.inr rfl) he) (ve_call (fun ta ha => gp_call (ok_law_any T) (hr.mono (by omega)) gd (by rfl) T.g_law_any T.F_law_any.kp (bi_law_any T) .nil pass0 ha) (fun _ _ => .nil) (va_cons (ve_var (pv 0)) (va_cons (ve_lst (va_cons ve_str (va_cons ve_str (va_cons ve_str (va_cons ve_str va_nil (by rfl)) (by rfl)) (by rfl)) (by rfl))) va_nil (by rfl)) (by rfl))))
  (vss_cons (vs_asg (fun te he => ps_set (i := 3) sc_law_deed.nd rfl (Or.inl rfl) he) (ve_maxD (fun te he => pe_callBK (cr_maxD rfl) (by rfl) T.b_max (by decide +kernel) (pa_cons he pa_nil) (pk_cons pe_int pk_nil)) (ve_lc (fun _ _ _ _ a b c d => pe_lc (own := [("_law_row", 7)]) rfl sc_law_deed.nd a (blkOk_by (own := [("_law_row", 7)]) (N := N_law_deed) (sc := defScope s_law_deed) (by decide +kernel)) b c d) (vi_seq (ve_var (pv 1))) (fun _ _ _ _ _ => (vtg_name (pg_name (i := 7) sc_law_deed.nd rfl (Or.inl rfl)))) (fun _ _ _ _ _ => (vts_one (vt_cmp (op_eqAll (hu64 hr)) ops_eq (ve_ix ix_seq ops_ix (ve_var (pv 7)) ve_int (fun _ _ => rfl)) (ve_var (pv 2)) (nomark _)))) (fun _ _ _ _ _ => (ve_ix ix_seq ops_ix (ve_var (pv 7)) ve_int (fun _ _ => rfl))) (by decide))))
  (vss_cons (vs_par (fun ta ha => ps_par (by rfl) sc_law_deed.nd rfl rfl (by decide) rfl rfl ha (by rfl)) (va_cons (ve_call (fun ta ha => gp_call (ok_law_pick T) (hr.mono (by omega)) gd (by rfl) T.g_law_pick T.F_law_pick.kp (bi_law_pick T) .nil pass0 ha) (fun _ _ => .nil) (va_cons (ve_var (pv 0)) (va_cons ve_int va_nil (by rfl)) (by rfl))) (va_cons (ve_call (fun ta ha => gp_call (ok_law_pick T) (hr.mono (by omega)) gd (by rfl) T.g_law_pick T.F_law_pick.kp (bi_law_pick T) .nil pass0 ha) (fun _ _ => .nil) (va_cons (ve_var (pv 0)) (va_cons (ve_bin op_addAll ops_add (ve_var (pv 3)) ve_int) va_nil (by rfl)) (by rfl))) va_nil (by rfl)) (by rfl)))
  (vss_cons (vs_if (vt_cmp (op_ltAll hr) ops_ltAll (ve_var (pv 4)) ve_int (nomark _)) (vss_cons (vs_asg (fun te he => ps_set (i := 6) sc_law_deed.nd rfl (Or.inl rfl) he) (ve_cb (fun ta ha => pe_callTy call_tupOfN (by rfl) T.b_tuple (by decide +kernel) ha) cs_tuple (va_cons (ve_lcL 100 (fun _ _ _ _ a b c d => pe_lc (own := [("_law_k", 8)]) rfl sc_law_deed.nd a (blkOk_by (own := [("_law_k", 8)]) (N := N_law_deed) (sc := defScope s_law_deed) (by decide +kernel)) b c d) (vi_range1 (fun ta ha => pi_range1 (by rfl) T.b_range ha) (va_cons (ve_call (fun ta ha => gp_call (ok_law_pick T) (hr.mono (by omega)) gd (by rfl) T.g_law_pick T.F_law_pick.kp (bi_law_pick T) .nil pass0 ha) (fun _ _ => .nil) (va_cons (ve_var (pv 0)) (va_cons ve_int va_nil (by rfl)) (by rfl))) va_nil (by rfl))) (fun _ _ _ _ _ => (vtg_name (pg_name (i := 8) sc_law_deed.nd rfl (Or.inl rfl)))) (fun _ _ _ _ _ => vts_nil) (fun _ _ _ _ _ => (ve_call (fun ta ha => gp_call (ok_law_value T) (hr.mono (by omega)) gd (by rfl) T.g_law_value T.F_law_value.kp (bi_law_value T) .nil pass0 ha) (fun _ _ => .nil) (va_cons (ve_var (pv 0)) va_nil (by rfl)))) (by decide)) va_nil (by rfl))))
  (vss_one (vs_ret (ve_tup (va_cons ve_str (va_cons (ve_var (pv 2)) (va_cons (ve_call (fun ta ha => gp_call (ok_law_any T) (hr.mono (by omega)) gd (by rfl) T.g_law_any T.F_law_any.kp (bi_law_any T) .nil pass0 ha) (fun _ _ => .nil) (va_cons (ve_var (pv 0)) (va_cons (ve_lst (va_cons ve_str (va_cons ve_str (va_cons ve_str (va_cons ve_str va_nil (by rfl)) (by rfl)) (by rfl)) (by rfl))) va_nil (by rfl)) (by rfl))) (va_cons (ve_var (pv 6)) va_nil (by rfl)) (by rfl)) (by rfl)) (by rfl)))))) vss_nil)
  (vss_cons (vs_if (vt_cmp (op_ltAll hr) ops_ltAll (ve_var (pv 4)) ve_int (nomark _)) (vss_one (vs_ret (ve_tup (va_cons ve_str (va_cons (ve_var (pv 2)) (va_cons (ve_var (pv 5)) (va_cons (ve_call (fun ta ha => gp_call (ok_law_pick T) (hr.mono (by omega)) gd (by rfl) T.g_law_pick T.F_law_pick.kp (bi_law_pick T) .nil pass0 ha) (fun _ _ => .nil) (va_cons (ve_var (pv 0)) (va_cons ve_int va_nil (by rfl)) (by rfl))) (va_cons (ve_call (fun ta ha => gp_call (ok_law_value T) (hr.mono (by omega)) gd (by rfl) T.g_law_value T.F_law_value.kp (bi_law_value T) .nil pass0 ha) (fun _ _ => .nil) (va_cons (ve_var (pv 0)) va_nil (by rfl))) va_nil (by rfl)) (by rfl)) (by rfl)) (by rfl)) (by rfl))))) vss_nil)
  (vss_cons (vs_if (vt_cmp (op_eqAll (hu64 hr)) ops_eq (ve_var (pv 4)) ve_int (nomark _)) (vss_one (vs_ret (ve_tup (va_cons ve_str (va_cons (ve_var (pv 2)) (va_cons (ve_var (pv 5)) (va_cons (ve_call (fun ta ha => gp_call (ok_law_pick T) (hr.mono (by omega)) gd (by rfl) T.g_law_pick T.F_law_pick.kp (bi_law_pick T) .nil pass0 ha) (fun _ _ => .nil) (va_cons (ve_var (pv 0)) (va_cons ve_int va_nil (by rfl)) (by rfl))) (va_cons (ve_bin op_subA ops_sub (ve_call (fun ta ha => gp_call (ok_law_pick T) (hr.mono (by omega)) gd (by rfl) T.g_law_pick T.F_law_pick.kp (bi_law_pick T) .nil pass0 ha) (fun _ _ => .nil) (va_cons (ve_var (pv 0)) (va_cons ve_int va_nil (by rfl)) (by rfl))) ve_int) va_nil (by rfl)) (by rfl)) (by rfl)) (by rfl)) (by rfl))))) vss_nil)
  (vss_one (vs_ret (ve_if (vt_cmp (op_ltAll hr) ops_ltAll (ve_var (pv 4)) ve_int (nomark _)) (ve_tup (va_cons ve_str (va_cons (ve_var (pv 2)) (va_cons (ve_var (pv 5)) va_nil (by rfl)) (by rfl)) (by rfl))) (ve_tup (va_cons ve_str (va_cons (ve_var (pv 2)) (va_cons (ve_call (fun ta ha => gp_call (ok_law_pick T) (hr.mono (by omega)) gd (by rfl) T.g_law_pick T.F_law_pick.kp (bi_law_pick T) .nil pass0 ha) (fun _ _ => .nil) (va_cons (ve_var (pv 0)) (va_cons ve_int va_nil (by rfl)) (by rfl))) va_nil (by rfl)) (by rfl)) (by rfl)))))))))))) (by omega)
def t_are_worths : TVS := (vRet (vAndV (vIsi "tuple" (vVar 0)) (vCB fAll (vCons (vLc (vSeqI (vVar 0)) (vgName 1) (fun _ Q => Q true) (vCall 1 m_is_value [] (vCons (vVar 1) vNil)) [1]) vNil))))
def m_are_worths : TF := vDef 2 t_are_worths
theorem e_are_worths : m_are_worths = vDef 2 (vRet (vAndV (vIsi "tuple" (vVar 0)) (vCB fAll (vCons (vLc (vSeqI (vVar 0)) (vgName 1) (fun _ Q => Q true) (vCall 1 m_is_value [] (vCons (vVar 1) vNil)) [1]) vNil)))) := rfl
set_option maxHeartbeats 4000000 in
theorem ok_are_worths (T : Txt K mg w) : GOk P w K mg base CX0 5 T.a_are_worths T.fd_are_worths ["thing"] (spOf K 1 0 m_are_worths) := by
  refine def_bodyD T.F_are_worths sc_are_worths fun f cdv A outer s H E hr gd => ?_
  exact ex_k (vss_one (vs_ret (ve_and (ve_isi (fun te he => pe_callB call_isi (by rfl) T.b_isinstance (by decide +kernel) (pa_cons he (pa_cons (pe_bltn (v := .ty "tuple") (by rfl) T.b_tuple (by decide +kernel) rfl) pa_nil))) tok_tuple (.ty _) (ve_var (pv 0))) (ve_one (ve_cb (fun ta ha => pe_callB (cr_all rfl) (by rfl) T.b_all (by decide +kernel) ha) cs_all (va_cons (ve_lc (fun _ _ _ _ a b c d => pe_lc (own := [("part", 1)]) rfl sc_are_worths.nd a (blkOk_by (own := [("part", 1)]) (N := N_are_worths) (sc := defScope s_are_worths) (by decide +kernel)) b c d) (vi_seq (ve_var (pv 0))) (fun _ _ _ _ _ => (vtg_name (pg_name (i := 1) sc_are_worths.nd rfl (Or.inl rfl)))) (fun _ _ _ _ _ => vts_nil) (fun _ _ _ _ _ => (ve_call (fun ta ha => gp_call (ok_is_value T) (hr.mono (by omega)) gd (by rfl) T.g_is_value T.F_is_value.kp (bi_is_value T) .nil pass0 ha) (fun _ _ => .nil) (va_cons (ve_var (pv 1)) va_nil (by rfl)))) (by decide)) va_nil (by rfl))))))) (by omega)
def t_is_cond : TVS := (vRet (vAndV (vCall 2 m_is_tuple_of [] (vCons (vVar 0) (vCons (vC (.int 3)) vNil))) (vAndV (vCall 1 m_is_number [] (vCons (vBin fIx (vVar 0) (vC (.int 0))) vNil)) (vAndV (vBin (fInD false) (vBin fIx (vVar 0) (vC (.int 1))) (vC (PyData.tuple [(PyData.str "="), (PyData.str "<"), (PyData.str ">")]))) (vCall 1 m_is_value [] (vCons (vBin fIx (vVar 0) (vC (.int 2))) vNil))))))
def m_is_cond : TF := vDef 1 t_is_cond
theorem e_is_cond : m_is_cond = vDef 1 (vRet (vAndV (vCall 2 m_is_tuple_of [] (vCons (vVar 0) (vCons (vC (.int 3)) vNil))) (vAndV (vCall 1 m_is_number [] (vCons (vBin fIx (vVar 0) (vC (.int 0))) vNil)) (vAndV (vBin (fInD false) (vBin fIx (vVar 0) (vC (.int 1))) (vC (PyData.tuple [(PyData.str "="), (PyData.str "<"), (PyData.str ">")]))) (vCall 1 m_is_value [] (vCons (vBin fIx (vVar 0) (vC (.int 2))) vNil)))))) := rfl
set_option maxHeartbeats 4000000 in
theorem ok_is_cond (T : Txt K mg w) : GOk P w K mg base CX0 5 T.a_is_cond T.fd_is_cond ["thing"] (spOf K 1 0 m_is_cond) := by
  refine def_bodyD T.F_is_cond sc_is_cond fun f cdv A outer s H E hr gd => ?_
  exact ex_k (vss_one (vs_ret (ve_and (ve_call (fun ta ha => gp_call (ok_is_tuple_of T) (hr.mono (by omega)) gd (by rfl) T.g_is_tuple_of T.F_is_tuple_of.kp (bi_is_tuple_of T) .nil pass0 ha) (fun _ _ => .nil) (va_cons (ve_var (pv 0)) (va_cons ve_int va_nil (by rfl)) (by rfl))) (ve_and (ve_call (fun ta ha => gp_call (ok_is_number T) (hr.mono (by omega)) gd (by rfl) T.g_is_number T.F_is_number.kp (bi_is_number T) .nil pass0 ha) (fun _ _ => .nil) (va_cons (ve_ix ix_seq ops_ix (ve_var (pv 0)) ve_int (fun _ _ => rfl)) va_nil (by rfl))) (ve_and (ve_cmp (op_in_sign.or (op_inD hr)) ops_inD (ve_ix ix_seq ops_ix (ve_var (pv 0)) ve_int (fun _ _ => rfl)) (ve_c (pe_glob (v := .ref T.a_SIGNS) (by rfl) T.g_SIGNS rfl) fun F H => T.r_SIGNS F H) (by rfl)) (ve_one (ve_call (fun ta ha => gp_call (ok_is_value T) (hr.mono (by omega)) gd (by rfl) T.g_is_value T.F_is_value.kp (bi_is_value T) .nil pass0 ha) (fun _ _ => .nil) (va_cons (ve_ix ix_seq ops_ix (ve_var (pv 0)) ve_int (fun _ _ => rfl)) va_nil (by rfl))))))))) (by omega)
def b_has_worth_0 : TVS := (vRet (vAndV (vBin fLtD (vVar 3) (vCB fLen (vCons (vVar 4) vNil))) (vOrV (vBin (fEq false) (vVar 2) (vC (.str "set"))) (vCall 1 m_is_whole [] (vCons (vBin fIx (vVar 4) (vVar 3)) vNil)))))
def b_has_worth_1 : TVS := (vSeq (vIfS (vTest (vBin (fEq false) (vVar 2) (vC (.str "follow")))) (vRet (vBin (fIsN true) (vCall 2 m_link_at [] (vCons (vVar 0) (vCons (vVar 3) vNil))) (vC .none))) vNext)
  b_has_worth_0)
def b_has_worth_2 : TVS := (vSeq (vPar 3 4 (vCons (vBin fIx (vVar 1) (vC (.int 3))) (vCons (vBin fIx (vVar 0) (vC (.int 3))) vNil)))
  b_has_worth_1)
def b_has_worth_3 : TVS := (vSeq (vIfS (vTest (vBin (fInD false) (vVar 2) (vTup (vCons (vC (.str "get")) (vCons (vC (.str "drop")) vNil))))) (vRet (vC (.bool true))) vNext)
  b_has_worth_2)
def b_has_worth_4 : TVS := (vSeq (vAsg 2 (vBin fIx (vVar 1) (vC (.int 0))))
  b_has_worth_3)
def t_has_worth : TVS := (vSeq (vAsg 2 (vBin fIx (vVar 1) (vC (.int 0))))
  (vSeq (vIfS (vTest (vBin (fInD false) (vVar 2) (vTup (vCons (vC (.str "get")) (vCons (vC (.str "drop")) vNil))))) (vRet (vC (.bool true))) vNext)
  (vSeq (vPar 3 4 (vCons (vBin fIx (vVar 1) (vC (.int 3))) (vCons (vBin fIx (vVar 0) (vC (.int 3))) vNil)))
  (vSeq (vIfS (vTest (vBin (fEq false) (vVar 2) (vC (.str "follow")))) (vRet (vBin (fIsN true) (vCall 2 m_link_at [] (vCons (vVar 0) (vCons (vVar 3) vNil))) (vC .none))) vNext)
  (vRet (vAndV (vBin fLtD (vVar 3) (vCB fLen (vCons (vVar 4) vNil))) (vOrV (vBin (fEq false) (vVar 2) (vC (.str "set"))) (vCall 1 m_is_whole [] (vCons (vBin fIx (vVar 4) (vVar 3)) vNil)))))))))
def m_has_worth : TF := vDef 5 t_has_worth
theorem e_has_worth : m_has_worth = vDef 5 b_has_worth_4 := rfl
set_option maxHeartbeats 4000000 in
theorem ok_has_worth (T : Txt K mg w) : GOk P w K mg base CX0 5 T.a_has_worth T.fd_has_worth ["row", "job"] (spOf K 2 0 m_has_worth) := by
  refine def_bodyD T.F_has_worth sc_has_worth fun f cdv A outer s H E hr gd => ?_
  exact ex_k (vss_cons (vs_asg (fun te he => ps_set (i := 2) sc_has_worth.nd rfl (Or.inl rfl) he) (ve_ix ix_seq ops_ix (ve_var (pv 1)) ve_int (fun _ _ => rfl)))
  (vss_cons (vs_if (vt_cmp (op_in_sign.or (op_inD hr)) ops_inD (ve_var (pv 2)) (ve_tup (va_cons ve_str (va_cons ve_str va_nil (by rfl)) (by rfl))) (by rfl)) (vss_one (vs_ret ve_bl)) vss_nil)
  (vss_cons (vs_par (fun ta ha => ps_par (by rfl) sc_has_worth.nd rfl rfl (by decide) rfl rfl ha (by rfl)) (va_cons (ve_ix ix_seq ops_ix (ve_var (pv 1)) ve_int (fun _ _ => rfl)) (va_cons (ve_ix ix_seq ops_ix (ve_var (pv 0)) ve_int (fun _ _ => rfl)) va_nil (by rfl)) (by rfl)))
  (vss_cons (vs_if (vt_cmp (op_eqAll (hu64 hr)) ops_eq (ve_var (pv 2)) ve_str (nomark _)) (vss_one (vs_ret (ve_cmp op_notN ops_notN (ve_call (fun ta ha => gp_call (ok_link_at T) (hr.mono (by omega)) gd (by rfl) T.g_link_at T.F_link_at.kp (bi_link_at T) .nil pass0 ha) (fun _ _ => .nil) (va_cons (ve_var (pv 0)) (va_cons (ve_var (pv 3)) va_nil (by rfl)) (by rfl))) ve_non (nomark _)))) vss_nil)
  (vss_one (vs_ret (ve_and (ve_cmp (op_ltAll hr) ops_ltAll (ve_var (pv 3)) (ve_cb (fun ta ha => pe_callB call_lenA (by rfl) T.b_len (by decide +kernel) ha) cs_len (va_cons (ve_var (pv 4)) va_nil (by rfl))) (nomark _)) (ve_one (ve_or (ve_cmp (op_eqAll (hu64 hr)) ops_eq (ve_var (pv 2)) ve_str (nomark _)) (ve_one (ve_call (fun ta ha => gp_call (ok_is_whole T) (hr.mono (by omega)) gd (by rfl) T.g_is_whole T.F_is_whole.kp (bi_is_whole T) .nil pass0 ha) (fun _ _ => .nil) (va_cons (ve_ix ix_seq ops_ix (ve_var (pv 4)) (ve_var (pv 3)) (fun _ _ => rfl)) va_nil (by rfl))))))))))))) (by omega)
def b_row_linked_0 : TVS := (vRet (vCall 3 m_row_of [] (vCons (vVar 0) (vCons (vVar 3) (vCons (vVar 4) vNil)))))
def b_row_linked_1 : TVS := (vSeq (vAsgT (vCall 2 m_link_at [] (vCons (vVar 1) (vCons (vVar 2) vNil))) (vgTup 2 (vgCons (vgName 3) (vgCons (vgName 4) vgNil))))
  b_row_linked_0)
def t_row_linked : TVS := (vSeq (vAsgT (vCall 2 m_link_at [] (vCons (vVar 1) (vCons (vVar 2) vNil))) (vgTup 2 (vgCons (vgName 3) (vgCons (vgName 4) vgNil))))
  (vRet (vCall 3 m_row_of [] (vCons (vVar 0) (vCons (vVar 3) (vCons (vVar 4) vNil))))))
def m_row_linked : TF := vDef 5 t_row_linked
theorem e_row_linked : m_row_linked = vDef 5 b_row_linked_1 := rfl
set_option maxHeartbeats 4000000 in
theorem ok_row_linked (T : Txt K mg w) : GOk P w K mg base CX0 5 T.a_row_linked T.fd_row_linked ["store", "row", "k"] (spOf K 3 0 m_row_linked) := by
  refine def_bodyD T.F_row_linked sc_row_linked fun f cdv A outer s H E hr gd => ?_
  exact ex_k (vss_cons (vs_asgT (fun _ _ a b => ps_asg a b) (ve_call (fun ta ha => gp_call (ok_link_at T) (hr.mono (by omega)) gd (by rfl) T.g_link_at T.F_link_at.kp (bi_link_at T) .nil pass0 ha) (fun _ _ => .nil) (va_cons (ve_var (pv 1)) (va_cons (ve_var (pv 2)) va_nil (by rfl)) (by rfl))) (vtg_tup rfl (vtgs_cons (vtg_name (pg_name (i := 3) sc_row_linked.nd rfl (Or.inl rfl))) (vtgs_cons (vtg_name (pg_name (i := 4) sc_row_linked.nd rfl (Or.inl rfl))) vtgs_nil (fun _ _ a b => pgs_cons a b)) (fun _ _ a b => pgs_cons a b)) (by rfl) (by rfl)))
  (vss_one (vs_ret (ve_call (fun ta ha => gp_call (ok_row_of T) (hr.mono (by omega)) gd (by rfl) T.g_row_of T.F_row_of.kp (bi_row_of T) .nil pass0 ha) (fun _ _ => .nil) (va_cons (ve_var (pv 0)) (va_cons (ve_var (pv 3)) (va_cons (ve_var (pv 4)) va_nil (by rfl)) (by rfl)) (by rfl)))))) (by omega)
def t_are_conds : TVS := (vRet (vAndV (vIsi "tuple" (vVar 0)) (vCB fAll (vCons (vLc (vSeqI (vVar 0)) (vgName 1) (fun _ Q => Q true) (vCall 1 m_is_cond [] (vCons (vVar 1) vNil)) [1]) vNil))))
def m_are_conds : TF := vDef 2 t_are_conds
theorem e_are_conds : m_are_conds = vDef 2 (vRet (vAndV (vIsi "tuple" (vVar 0)) (vCB fAll (vCons (vLc (vSeqI (vVar 0)) (vgName 1) (fun _ Q => Q true) (vCall 1 m_is_cond [] (vCons (vVar 1) vNil)) [1]) vNil)))) := rfl
set_option maxHeartbeats 4000000 in
theorem ok_are_conds (T : Txt K mg w) : GOk P w K mg base CX0 6 T.a_are_conds T.fd_are_conds ["thing"] (spOf K 1 0 m_are_conds) := by
  refine def_bodyD T.F_are_conds sc_are_conds fun f cdv A outer s H E hr gd => ?_
  exact ex_k (vss_one (vs_ret (ve_and (ve_isi (fun te he => pe_callB call_isi (by rfl) T.b_isinstance (by decide +kernel) (pa_cons he (pa_cons (pe_bltn (v := .ty "tuple") (by rfl) T.b_tuple (by decide +kernel) rfl) pa_nil))) tok_tuple (.ty _) (ve_var (pv 0))) (ve_one (ve_cb (fun ta ha => pe_callB (cr_all rfl) (by rfl) T.b_all (by decide +kernel) ha) cs_all (va_cons (ve_lc (fun _ _ _ _ a b c d => pe_lc (own := [("part", 1)]) rfl sc_are_conds.nd a (blkOk_by (own := [("part", 1)]) (N := N_are_conds) (sc := defScope s_are_conds) (by decide +kernel)) b c d) (vi_seq (ve_var (pv 0))) (fun _ _ _ _ _ => (vtg_name (pg_name (i := 1) sc_are_conds.nd rfl (Or.inl rfl)))) (fun _ _ _ _ _ => vts_nil) (fun _ _ _ _ _ => (ve_call (fun ta ha => gp_call (ok_is_cond T) (hr.mono (by omega)) gd (by rfl) T.g_is_cond T.F_is_cond.kp (bi_is_cond T) .nil pass0 ha) (fun _ _ => .nil) (va_cons (ve_var (pv 1)) va_nil (by rfl)))) (by decide)) va_nil (by rfl))))))) (by omega)
def b_refusal_of_0 : TVS := (vRet (vIf (vAnd (vTest (vBin (fEq true) (vVar 6) (vC (.str "get")))) (vTest (vCallK 1 2 3 m_is_kept (vCons (vVar 5) vNil) (vCons (vVar 4) (vCons (vVar 2) vNil))))) (vC (.str "kept")) (vC .none)))
def b_refusal_of_1 : TVS := (vSeq (vIfS (vTest (vBin (fEq false) (vVar 6) (vC (.str "follow")))) (vRet (vIf (vTest (vBin (fIsN false) (vCall 3 m_row_linked [] (vCons (vVar 0) (vCons (vVar 5) (vCons (vBin fIx (vVar 1) (vC (.int 3))) vNil)))) (vC .none))) (vC (.str "link")) (vC .none))) vNext)
  b_refusal_of_0)
def b_refusal_of_2 : TVS := (vSeq (vIfS (vNotT (vTest (vCall 2 m_has_worth [] (vCons (vVar 5) (vCons (vVar 1) vNil))))) (vRet (vC (.str "worth"))) vNext)
  b_refusal_of_1)
def b_refusal_of_3 : TVS := (vSeq (vIfS (vTest (vBin (fIsN false) (vVar 5) (vC .none))) (vRet (vC (.str "row"))) vNext)
  b_refusal_of_2)
def b_refusal_of_4 : TVS := (vSeq (vAsg 5 (vCall 3 m_row_of [] (vCons (vVar 0) (vCons (vVar 7) (vCons (vBin fIx (vVar 1) (vC (.int 2))) vNil)))))
  b_refusal_of_3)
def b_refusal_of_5 : TVS := (vSeq (vIfS (vTest (vCall 1 m_looks [] (vCons (vVar 1) vNil))) (vRet (vC .none)) vNext)
  b_refusal_of_4)
def b_refusal_of_6 : TVS := (vSeq (vIfS (vNotT (vTest (vCall 2 m_has_table [] (vCons (vVar 0) (vCons (vVar 7) vNil))))) (vRet (vC (.str "table"))) vNext)
  b_refusal_of_5)
def b_refusal_of_7 : TVS := (vSeq (vIfS (vTest (vBin (fEq false) (vVar 6) (vC (.str "put")))) (vRet (vIf (vTest (vCallK 1 2 3 m_is_stray (vCons (vCall 3 m_row_put [] (vCons (vVar 0) (vCons (vVar 1) (vCons (vVar 2) vNil)))) vNil) (vCons (vVar 4) (vCons (vVar 3) vNil)))) (vC (.str "stay")) (vC .none))) vNext)
  b_refusal_of_6)
def b_refusal_of_8 : TVS := (vSeq (vIfS (vTest (vBin (fEq false) (vVar 6) (vC (.str "index")))) (vRet (vC .none)) vNext)
  b_refusal_of_7)
def b_refusal_of_9 : TVS := (vSeq (vAsgT (vSl (vVar 1) (fun _ Q => Q none) (vSome (vC (.int 2)))) (vgTup 2 (vgCons (vgName 6) (vgCons (vgName 7) vgNil))))
  b_refusal_of_8)
def t_refusal_of : TVS := (vSeq (vAsgT (vSl (vVar 1) (fun _ Q => Q none) (vSome (vC (.int 2)))) (vgTup 2 (vgCons (vgName 6) (vgCons (vgName 7) vgNil))))
  (vSeq (vIfS (vTest (vBin (fEq false) (vVar 6) (vC (.str "index")))) (vRet (vC .none)) vNext)
  (vSeq (vIfS (vTest (vBin (fEq false) (vVar 6) (vC (.str "put")))) (vRet (vIf (vTest (vCallK 1 2 3 m_is_stray (vCons (vCall 3 m_row_put [] (vCons (vVar 0) (vCons (vVar 1) (vCons (vVar 2) vNil)))) vNil) (vCons (vVar 4) (vCons (vVar 3) vNil)))) (vC (.str "stay")) (vC .none))) vNext)
  (vSeq (vIfS (vNotT (vTest (vCall 2 m_has_table [] (vCons (vVar 0) (vCons (vVar 7) vNil))))) (vRet (vC (.str "table"))) vNext)
  (vSeq (vIfS (vTest (vCall 1 m_looks [] (vCons (vVar 1) vNil))) (vRet (vC .none)) vNext)
  (vSeq (vAsg 5 (vCall 3 m_row_of [] (vCons (vVar 0) (vCons (vVar 7) (vCons (vBin fIx (vVar 1) (vC (.int 2))) vNil)))))
  (vSeq (vIfS (vTest (vBin (fIsN false) (vVar 5) (vC .none))) (vRet (vC (.str "row"))) vNext)
  (vSeq (vIfS (vNotT (vTest (vCall 2 m_has_worth [] (vCons (vVar 5) (vCons (vVar 1) vNil))))) (vRet (vC (.str "worth"))) vNext)
  (vSeq (vIfS (vTest (vBin (fEq false) (vVar 6) (vC (.str "follow")))) (vRet (vIf (vTest (vBin (fIsN false) (vCall 3 m_row_linked [] (vCons (vVar 0) (vCons (vVar 5) (vCons (vBin fIx (vVar 1) (vC (.int 3))) vNil)))) (vC .none))) (vC (.str "link")) (vC .none))) vNext)
  (vRet (vIf (vAnd (vTest (vBin (fEq true) (vVar 6) (vC (.str "get")))) (vTest (vCallK 1 2 3 m_is_kept (vCons (vVar 5) vNil) (vCons (vVar 4) (vCons (vVar 2) vNil))))) (vC (.str "kept")) (vC .none))))))))))))
def m_refusal_of : TF := vDef 8 t_refusal_of
theorem e_refusal_of : m_refusal_of = vDef 8 b_refusal_of_9 := rfl
set_option maxHeartbeats 4000000 in
theorem ok_refusal_of (T : Txt K mg w) : GOk P w K mg base CX0 6 T.a_refusal_of T.fd_refusal_of ["store", "job", "tick", "land", "rules"] (spOf K 5 0 m_refusal_of) := by
  refine def_bodyD T.F_refusal_of sc_refusal_of fun f cdv A outer s H E hr gd => ?_
  exact ex_k (vss_cons (vs_asgT (fun _ _ a b => ps_asg a b) (ve_sl (ve_var (pv 1)) vo_none (vo_some ve_int)) (vtg_tup rfl (vtgs_cons (vtg_name (pg_name (i := 6) sc_refusal_of.nd rfl (Or.inl rfl))) (vtgs_cons (vtg_name (pg_name (i := 7) sc_refusal_of.nd rfl (Or.inl rfl))) vtgs_nil (fun _ _ a b => pgs_cons a b)) (fun _ _ a b => pgs_cons a b)) (by rfl) (by rfl)))
  (vss_cons (vs_if (vt_cmp (op_eqAll (hu64 hr)) ops_eq (ve_var (pv 6)) ve_str (nomark _)) (vss_one (vs_ret ve_non)) vss_nil)
  (vss_cons (vs_if (vt_cmp (op_eqAll (hu64 hr)) ops_eq (ve_var (pv 6)) ve_str (nomark _)) (vss_one (vs_ret (ve_if (vt_val (ve_callK (fun ta tk ha hk => gp_callK (ok_is_stray T) (hr.mono (by omega)) gd (by rfl) T.g_is_stray T.F_is_stray.kp (kb_is_stray T) pass0 ha hk) (va_cons (ve_call (fun ta ha => gp_call (ok_row_put T) (hr.mono (by omega)) gd (by rfl) T.g_row_put T.F_row_put.kp (bi_row_put T) .nil pass0 ha) (fun _ _ => .nil) (va_cons (ve_var (pv 0)) (va_cons (ve_var (pv 1)) (va_cons (ve_var (pv 2)) va_nil (by rfl)) (by rfl)) (by rfl))) va_nil (by rfl)) (vk_cons (ve_var (pv 4)) (vk_cons (ve_var (pv 3)) vk_nil))) (by intro _; rfl)) ve_str ve_non))) vss_nil)
  (vss_cons (vs_if (vt_not (vt_val (ve_call (fun ta ha => gp_call (ok_has_table T) (hr.mono (by omega)) gd (by rfl) T.g_has_table T.F_has_table.kp (bi_has_table T) .nil pass0 ha) (fun _ _ => .nil) (va_cons (ve_var (pv 0)) (va_cons (ve_var (pv 7)) va_nil (by rfl)) (by rfl))) (by intro _; rfl))) (vss_one (vs_ret ve_str)) vss_nil)
  (vss_cons (vs_if (vt_val (ve_call (fun ta ha => gp_call (ok_looks T) (hr.mono (by omega)) gd (by rfl) T.g_looks T.F_looks.kp (bi_looks T) .nil pass0 ha) (fun _ _ => .nil) (va_cons (ve_var (pv 1)) va_nil (by rfl))) (by intro _; rfl)) (vss_one (vs_ret ve_non)) vss_nil)
  (vss_cons (vs_asg (fun te he => ps_set (i := 5) sc_refusal_of.nd rfl (Or.inl rfl) he) (ve_call (fun ta ha => gp_call (ok_row_of T) (hr.mono (by omega)) gd (by rfl) T.g_row_of T.F_row_of.kp (bi_row_of T) .nil pass0 ha) (fun _ _ => .nil) (va_cons (ve_var (pv 0)) (va_cons (ve_var (pv 7)) (va_cons (ve_ix ix_seq ops_ix (ve_var (pv 1)) ve_int (fun _ _ => rfl)) va_nil (by rfl)) (by rfl)) (by rfl))))
  (vss_cons (vs_if (vt_cmp op_isN ops_isN (ve_var (pv 5)) ve_non (nomark _)) (vss_one (vs_ret ve_str)) vss_nil)
  (vss_cons (vs_if (vt_not (vt_val (ve_call (fun ta ha => gp_call (ok_has_worth T) (hr.mono (by omega)) gd (by rfl) T.g_has_worth T.F_has_worth.kp (bi_has_worth T) .nil pass0 ha) (fun _ _ => .nil) (va_cons (ve_var (pv 5)) (va_cons (ve_var (pv 1)) va_nil (by rfl)) (by rfl))) (by intro _; rfl))) (vss_one (vs_ret ve_str)) vss_nil)
  (vss_cons (vs_if (vt_cmp (op_eqAll (hu64 hr)) ops_eq (ve_var (pv 6)) ve_str (nomark _)) (vss_one (vs_ret (ve_if (vt_cmp op_isN ops_isN (ve_call (fun ta ha => gp_call (ok_row_linked T) (hr.mono (by omega)) gd (by rfl) T.g_row_linked T.F_row_linked.kp (bi_row_linked T) .nil pass0 ha) (fun _ _ => .nil) (va_cons (ve_var (pv 0)) (va_cons (ve_var (pv 5)) (va_cons (ve_ix ix_seq ops_ix (ve_var (pv 1)) ve_int (fun _ _ => rfl)) va_nil (by rfl)) (by rfl)) (by rfl))) ve_non (nomark _)) ve_str ve_non))) vss_nil)
  (vss_one (vs_ret (ve_if (vw_pt (vw_and (vt_cmp (op_neAll (hu64 hr)) ops_ne (ve_var (pv 6)) ve_str (nomark _)) (vw_one (vt_val (ve_callK (fun ta tk ha hk => gp_callK (ok_is_kept T) (hr.mono (by omega)) gd (by rfl) T.g_is_kept T.F_is_kept.kp (kb_is_kept T) pass0 ha hk) (va_cons (ve_var (pv 5)) va_nil (by rfl)) (vk_cons (ve_var (pv 4)) (vk_cons (ve_var (pv 2)) vk_nil))) (by intro _; rfl))))) ve_str ve_non)))))))))))) (by omega)
abbrev fs_CHECKS : List (Str × TF) := [("table", m_is_word), ("land", m_is_word), ("id", m_is_number), ("k", m_is_number), ("most", m_is_number), ("more", m_is_whole), ("ticks", m_is_from_one), ("value", m_is_value), ("worths", m_are_worths), ("conds", m_are_conds)]
def t_fits : TVS := (vDisp 2 fs_CHECKS 1 (vVar 0) (vCons (vVar 1) vNil))
def m_fits : TF := vDef 3 t_fits
theorem e_fits : m_fits = vDef 3 (vDisp 2 fs_CHECKS 1 (vVar 0) (vCons (vVar 1) vNil)) := rfl
set_option maxHeartbeats 4000000 in
theorem ok_fits (T : Txt K mg w) : GOk P w K mg base CX0 7 T.a_fits T.fd_fits ["kind", "thing"] (spOf K 2 0 m_fits) := by
  refine def_bodyD T.F_fits sc_fits fun f cdv A outer s H E hr gd => ?_
  exact ex_k (vss_disp (k := 6) (x := "check") T.kd_CHECKS (fs := fs_CHECKS) (.cons ⟨rfl, _, rfl, ⟨_, _, (ok_is_word T).mono (by omega), T.F_is_word.kp, bi_is_word T⟩⟩ (.cons ⟨rfl, _, rfl, ⟨_, _, (ok_is_word T).mono (by omega), T.F_is_word.kp, bi_is_word T⟩⟩ (.cons ⟨rfl, _, rfl, ⟨_, _, (ok_is_number T).mono (by omega), T.F_is_number.kp, bi_is_number T⟩⟩ (.cons ⟨rfl, _, rfl, ⟨_, _, (ok_is_number T).mono (by omega), T.F_is_number.kp, bi_is_number T⟩⟩ (.cons ⟨rfl, _, rfl, ⟨_, _, (ok_is_number T).mono (by omega), T.F_is_number.kp, bi_is_number T⟩⟩ (.cons ⟨rfl, _, rfl, ⟨_, _, (ok_is_whole T).mono (by omega), T.F_is_whole.kp, bi_is_whole T⟩⟩ (.cons ⟨rfl, _, rfl, ⟨_, _, (ok_is_from_one T).mono (by omega), T.F_is_from_one.kp, bi_is_from_one T⟩⟩ (.cons ⟨rfl, _, rfl, ⟨_, _, (ok_is_value T).mono (by omega), T.F_is_value.kp, bi_is_value T⟩⟩ (.cons ⟨rfl, _, rfl, ⟨_, _, (ok_are_worths T).mono (by omega), T.F_are_worths.kp, bi_are_worths T⟩⟩ (.cons ⟨rfl, _, rfl, ⟨_, _, (ok_are_conds T).mono (by omega), T.F_are_conds.kp, bi_are_conds T⟩⟩ (.nil))))))))))) (hr.mono (by omega)) gd rfl (by first | exact (Or.inl rfl) | exact Or.inl rfl) (ve_var (pv 0)) (pe_glob (v := .ref T.d_CHECKS) (by rfl) T.g_CHECKS rfl) (fun _ _ => rfl) (fun te he => ps_set (i := 2) sc_fits.nd rfl (Or.inl rfl) he) (va_cons (ve_var (pv 1)) va_nil (by rfl))) (by omega)
def t_are_parts : TVS := (vRet (vAndV (vBin (fEq false) (vCB fLen (vCons (vVar 0) vNil)) (vCB fLen (vCons (vVar 1) vNil))) (vCB fAll (vCons (vLc (vZip (vCons (vVar 1) (vCons (vVar 0) vNil))) (vgTup 2 (vgCons (vgName 2) (vgCons (vgName 3) vgNil))) (fun _ Q => Q true) (vCall 2 m_fits [] (vCons (vVar 2) (vCons (vVar 3) vNil))) [2, 3]) vNil))))
def m_are_parts : TF := vDef 4 t_are_parts
theorem e_are_parts : m_are_parts = vDef 4 (vRet (vAndV (vBin (fEq false) (vCB fLen (vCons (vVar 0) vNil)) (vCB fLen (vCons (vVar 1) vNil))) (vCB fAll (vCons (vLc (vZip (vCons (vVar 1) (vCons (vVar 0) vNil))) (vgTup 2 (vgCons (vgName 2) (vgCons (vgName 3) vgNil))) (fun _ Q => Q true) (vCall 2 m_fits [] (vCons (vVar 2) (vCons (vVar 3) vNil))) [2, 3]) vNil)))) := rfl
set_option maxHeartbeats 4000000 in
theorem ok_are_parts (T : Txt K mg w) : GOk P w K mg base CX0 8 T.a_are_parts T.fd_are_parts ["things", "kinds"] (spOf K 2 0 m_are_parts) := by
  refine def_bodyD T.F_are_parts sc_are_parts fun f cdv A outer s H E hr gd => ?_
  exact ex_k (vss_one (vs_ret (ve_and (ve_cmp (op_eqAll (hu64 hr)) ops_eq (ve_cb (fun ta ha => pe_callB call_lenA (by rfl) T.b_len (by decide +kernel) ha) cs_len (va_cons (ve_var (pv 0)) va_nil (by rfl))) (ve_cb (fun ta ha => pe_callB call_lenA (by rfl) T.b_len (by decide +kernel) ha) cs_len (va_cons (ve_var (pv 1)) va_nil (by rfl))) (nomark _)) (ve_one (ve_cb (fun ta ha => pe_callB (cr_all rfl) (by rfl) T.b_all (by decide +kernel) ha) cs_all (va_cons (ve_lc (fun _ _ _ _ a b c d => pe_lc (own := [("kind", 2), ("part", 3)]) rfl sc_are_parts.nd a (blkOk_by (own := [("kind", 2), ("part", 3)]) (N := N_are_parts) (sc := defScope s_are_parts) (by decide +kernel)) b c d) (vi_zip (fun ta ha => RZ.pi_zipA (by rfl) T.b_zip ha) (va_cons (ve_var (pv 1)) (va_cons (ve_var (pv 0)) va_nil (by rfl)) (by rfl))) (fun _ _ _ _ _ => (vtg_tup rfl (vtgs_cons (vtg_name (pg_name (i := 2) sc_are_parts.nd rfl (Or.inl rfl))) (vtgs_cons (vtg_name (pg_name (i := 3) sc_are_parts.nd rfl (Or.inl rfl))) vtgs_nil (fun _ _ a b => pgs_cons a b)) (fun _ _ a b => pgs_cons a b)) (by rfl) (by rfl))) (fun _ _ _ _ _ => vts_nil) (fun _ _ _ _ _ => (ve_call (fun ta ha => gp_call (ok_fits T) (hr.mono (by omega)) gd (by rfl) T.g_fits T.F_fits.kp (bi_fits T) .nil pass0 ha) (fun _ _ => .nil) (va_cons (ve_var (pv 2)) (va_cons (ve_var (pv 3)) va_nil (by rfl)) (by rfl)))) (by decide)) va_nil (by rfl))))))) (by omega)
def t_is_ask : TVS := (vRet (vAndV (vCall 1 m_begins_with_text [] (vCons (vVar 0) vNil)) (vAndV (vKIn false kds_ASKS (vBin fIx (vVar 0) (vC (.int 0)))) (vCall 2 m_are_parts [] (vCons (vSl (vVar 0) (vSome (vC (.int 1))) (fun _ Q => Q none)) (vCons (vKGet kds_ASKS (vBin fIx (vVar 0) (vC (.int 0)))) vNil))))))
def m_is_ask : TF := vDef 1 t_is_ask
theorem e_is_ask : m_is_ask = vDef 1 (vRet (vAndV (vCall 1 m_begins_with_text [] (vCons (vVar 0) vNil)) (vAndV (vKIn false kds_ASKS (vBin fIx (vVar 0) (vC (.int 0)))) (vCall 2 m_are_parts [] (vCons (vSl (vVar 0) (vSome (vC (.int 1))) (fun _ Q => Q none)) (vCons (vKGet kds_ASKS (vBin fIx (vVar 0) (vC (.int 0)))) vNil)))))) := rfl
set_option maxHeartbeats 4000000 in
theorem ok_is_ask (T : Txt K mg w) : GOk P w K mg base CX0 9 T.a_is_ask T.fd_is_ask ["thing"] (spOf K 1 0 m_is_ask) := by
  refine def_bodyD T.F_is_ask sc_is_ask fun f cdv A outer s H E hr gd => ?_
  exact ex_k (vss_one (vs_ret (ve_and (ve_call (fun ta ha => gp_call (ok_begins_with_text T) (hr.mono (by omega)) gd (by rfl) T.g_begins_with_text T.F_begins_with_text.kp (bi_begins_with_text T) .nil pass0 ha) (fun _ _ => .nil) (va_cons (ve_var (pv 0)) va_nil (by rfl))) (ve_and (ve_kin T.kd_ASKS (ks_ASKS T) (ve_ix ix_seq ops_ix (ve_var (pv 0)) ve_int (fun _ _ => rfl)) (pe_glob (v := .ref T.d_ASKS) (by rfl) T.g_ASKS rfl) (by rfl)) (ve_one (ve_call (fun ta ha => gp_call (ok_are_parts T) (hr.mono (by omega)) gd (by rfl) T.g_are_parts T.F_are_parts.kp (bi_are_parts T) .nil pass0 ha) (fun _ _ => .nil) (va_cons (ve_sl (ve_var (pv 0)) (vo_some ve_int) vo_none) (va_cons (ve_kget T.kd_ASKS (ks_ASKS T) (ve_ix ix_seq ops_ix (ve_var (pv 0)) ve_int (fun _ _ => rfl)) (pe_glob (v := .ref T.d_ASKS) (by rfl) T.g_ASKS rfl) (fun _ _ => rfl)) va_nil (by rfl)) (by rfl)))))))) (by omega)
def b_same_0 (self : TF) : TVS := (vRet (vAndV (vBin (fEq false) (vIsi "bool" (vVar 0)) (vIsi "bool" (vVar 1))) (vBin (fEq false) (vVar 0) (vVar 1))))
def b_same_1 (self : TF) : TVS := (vSeq (vIfS (vAnd (vTest (vIsi2 "list" "tuple" (vVar 0))) (vTest (vIsi2 "list" "tuple" (vVar 1)))) (vRet (vAndV (vBin (fEq false) (vIsi "list" (vVar 0)) (vIsi "list" (vVar 1))) (vCall 2 (m_are_same self) [] (vCons (vVar 0) (vCons (vVar 1) vNil))))) vNext)
  (b_same_0 self))
def t_same (self : TF) : TVS := (vSeq (vIfS (vAnd (vTest (vIsi2 "list" "tuple" (vVar 0))) (vTest (vIsi2 "list" "tuple" (vVar 1)))) (vRet (vAndV (vBin (fEq false) (vIsi "list" (vVar 0)) (vIsi "list" (vVar 1))) (vCall 2 (m_are_same self) [] (vCons (vVar 0) (vCons (vVar 1) vNil))))) vNext)
  (vRet (vAndV (vBin (fEq false) (vIsi "bool" (vVar 0)) (vIsi "bool" (vVar 1))) (vBin (fEq false) (vVar 0) (vVar 1)))))
def m_same : Nat → TF
  | 0 => fun _ _ => False
  | n + 1 => vDef 2 (t_same (m_same n))
theorem e_same (n : Nat) : m_same (n + 1) = vDef 2 (b_same_1 (m_same n)) := rfl
set_option maxHeartbeats 4000000 in
theorem ok_same (T : Txt K mg w) : ∀ n, GOk P w K mg base CX0 (2 + 2 * n) T.a_same T.fd_same ["one", "other"] (spOf K 2 0 (m_same n))
  | 0 => gok_false rfl
  | n + 1 => by
    refine def_bodyD (k := 2 + 2 * n + 1) (κ := 0) T.F_same sc_same fun f cdv A outer s H E hr gd => ?_
    exact ex_k (vss_cons (vs_if (vw_pt (vw_and (vt_val (ve_isi2 (S := "list") (T := "tuple") (fun te he => pe_callB call_isiT (by rfl) T.b_isinstance (by decide +kernel) (pa_cons he (pa_cons (pe_tup (pa_cons (pe_bltn (v := .ty "list") (by rfl) T.b_list (by decide +kernel) rfl) (pa_cons (pe_bltn (v := .ty "tuple") (by rfl) T.b_tuple (by decide +kernel) rfl) pa_nil))) pa_nil))) tok_list tok_tuple (.ty _) (.ty _) (by intro n hn K; simp only [List.mem_cons, List.not_mem_nil, or_false] at hn; rcases hn with rfl | rfl | rfl | rfl | rfl | rfl | rfl <;> rfl) (ve_var (pv 0))) (by intro _; rfl)) (vw_one (vt_val (ve_isi2 (S := "list") (T := "tuple") (fun te he => pe_callB call_isiT (by rfl) T.b_isinstance (by decide +kernel) (pa_cons he (pa_cons (pe_tup (pa_cons (pe_bltn (v := .ty "list") (by rfl) T.b_list (by decide +kernel) rfl) (pa_cons (pe_bltn (v := .ty "tuple") (by rfl) T.b_tuple (by decide +kernel) rfl) pa_nil))) pa_nil))) tok_list tok_tuple (.ty _) (.ty _) (by intro n hn K; simp only [List.mem_cons, List.not_mem_nil, or_false] at hn; rcases hn with rfl | rfl | rfl | rfl | rfl | rfl | rfl <;> rfl) (ve_var (pv 1))) (by intro _; rfl))))) (vss_one (vs_ret (ve_and (ve_cmp (op_eqAll (hu64 hr)) ops_eq (ve_isi (fun te he => pe_callB call_isi (by rfl) T.b_isinstance (by decide +kernel) (pa_cons he (pa_cons (pe_bltn (v := .ty "list") (by rfl) T.b_list (by decide +kernel) rfl) pa_nil))) tok_list (.ty _) (ve_var (pv 0))) (ve_isi (fun te he => pe_callB call_isi (by rfl) T.b_isinstance (by decide +kernel) (pa_cons he (pa_cons (pe_bltn (v := .ty "list") (by rfl) T.b_list (by decide +kernel) rfl) pa_nil))) tok_list (.ty _) (ve_var (pv 1))) (nomark _)) (ve_one (ve_call (fun ta ha => gp_call (ok_are_same T (ok_same T n) (by omega)) (hr.mono (by omega)) gd (by rfl) T.g_are_same T.F_are_same.kp (bi_are_same T) .nil pass0 ha) (fun _ _ => .nil) (va_cons (ve_var (pv 0)) (va_cons (ve_var (pv 1)) va_nil (by rfl)) (by rfl))))))) vss_nil)
  (vss_one (vs_ret (ve_and (ve_cmp (op_eqAll (hu64 hr)) ops_eq (ve_isi (fun te he => pe_callB call_isi (by rfl) T.b_isinstance (by decide +kernel) (pa_cons he (pa_cons (pe_bltn (v := .ty "bool") (by rfl) T.b_bool (by decide +kernel) rfl) pa_nil))) tok_bool (.ty _) (ve_var (pv 0))) (ve_isi (fun te he => pe_callB call_isi (by rfl) T.b_isinstance (by decide +kernel) (pa_cons he (pa_cons (pe_bltn (v := .ty "bool") (by rfl) T.b_bool (by decide +kernel) rfl) pa_nil))) tok_bool (.ty _) (ve_var (pv 1))) (nomark _)) (ve_one (ve_cmp (op_eqAll (hu64 hr)) ops_eq (ve_var (pv 0)) (ve_var (pv 1)) (nomark _))))))) (by omega)
def b_meets_cond_0 : TVS := (vRet (vIf (vTest (vBin (fEq false) (vVar 4) (vC (.str "<")))) (vBin fLtD (vBin fIx (vVar 2) (vVar 3)) (vVar 5)) (vBin fGt (vBin fIx (vVar 2) (vVar 3)) (vVar 5))))
def b_meets_cond_1 : TVS := (vSeq (vIfS (vOr (vNotT (vTest (vCall 1 m_is_whole [] (vCons (vBin fIx (vVar 2) (vVar 3)) vNil)))) (vNotT (vTest (vCall 1 m_is_whole [] (vCons (vVar 5) vNil))))) (vRet (vC (.bool false))) vNext)
  b_meets_cond_0)
def b_meets_cond_2 : TVS := (vSeq (vIfS (vTest (vBin (fEq false) (vVar 4) (vC (.str "=")))) (vRet (vCall 2 (m_same 12) [] (vCons (vBin fIx (vVar 2) (vVar 3)) (vCons (vVar 5) vNil)))) vNext)
  b_meets_cond_1)
def b_meets_cond_3 : TVS := (vSeq (vIfS (vTest (vBin fGeA (vVar 3) (vCB fLen (vCons (vVar 2) vNil)))) (vRet (vC (.bool false))) vNext)
  b_meets_cond_2)
def b_meets_cond_4 : TVS := (vSeq (vAsg 2 (vBin fIx (vVar 0) (vC (.int 3))))
  b_meets_cond_3)
def b_meets_cond_5 : TVS := (vSeq (vAsgT (vVar 1) (vgTup 3 (vgCons (vgName 3) (vgCons (vgName 4) (vgCons (vgName 5) vgNil)))))
  b_meets_cond_4)
def t_meets_cond : TVS := (vSeq (vAsgT (vVar 1) (vgTup 3 (vgCons (vgName 3) (vgCons (vgName 4) (vgCons (vgName 5) vgNil)))))
  (vSeq (vAsg 2 (vBin fIx (vVar 0) (vC (.int 3))))
  (vSeq (vIfS (vTest (vBin fGeA (vVar 3) (vCB fLen (vCons (vVar 2) vNil)))) (vRet (vC (.bool false))) vNext)
  (vSeq (vIfS (vTest (vBin (fEq false) (vVar 4) (vC (.str "=")))) (vRet (vCall 2 (m_same 12) [] (vCons (vBin fIx (vVar 2) (vVar 3)) (vCons (vVar 5) vNil)))) vNext)
  (vSeq (vIfS (vOr (vNotT (vTest (vCall 1 m_is_whole [] (vCons (vBin fIx (vVar 2) (vVar 3)) vNil)))) (vNotT (vTest (vCall 1 m_is_whole [] (vCons (vVar 5) vNil))))) (vRet (vC (.bool false))) vNext)
  (vRet (vIf (vTest (vBin (fEq false) (vVar 4) (vC (.str "<")))) (vBin fLtD (vBin fIx (vVar 2) (vVar 3)) (vVar 5)) (vBin fGt (vBin fIx (vVar 2) (vVar 3)) (vVar 5)))))))))
def m_meets_cond : TF := vDef 6 t_meets_cond
theorem e_meets_cond : m_meets_cond = vDef 6 b_meets_cond_5 := rfl
set_option maxHeartbeats 4000000 in
theorem ok_meets_cond (T : Txt K mg w) : GOk P w K mg base CX0 27 T.a_meets_cond T.fd_meets_cond ["row", "cond"] (spOf K 2 0 m_meets_cond) := by
  refine def_bodyD T.F_meets_cond sc_meets_cond fun f cdv A outer s H E hr gd => ?_
  exact ex_k (vss_cons (vs_asgT (fun _ _ a b => ps_asg a b) (ve_var (pv 1)) (vtg_tup rfl (vtgs_cons (vtg_name (pg_name (i := 3) sc_meets_cond.nd rfl (Or.inl rfl))) (vtgs_cons (vtg_name (pg_name (i := 4) sc_meets_cond.nd rfl (Or.inl rfl))) (vtgs_cons (vtg_name (pg_name (i := 5) sc_meets_cond.nd rfl (Or.inl rfl))) vtgs_nil (fun _ _ a b => pgs_cons a b)) (fun _ _ a b => pgs_cons a b)) (fun _ _ a b => pgs_cons a b)) (by rfl) (by rfl)))
  (vss_cons (vs_asg (fun te he => ps_set (i := 2) sc_meets_cond.nd rfl (Or.inl rfl) he) (ve_ix ix_seq ops_ix (ve_var (pv 0)) ve_int (fun _ _ => rfl)))
  (vss_cons (vs_if (vt_cmp (op_geAll hr) ops_geAll (ve_var (pv 3)) (ve_cb (fun ta ha => pe_callB call_lenA (by rfl) T.b_len (by decide +kernel) ha) cs_len (va_cons (ve_var (pv 2)) va_nil (by rfl))) (nomark _)) (vss_one (vs_ret ve_bl)) vss_nil)
  (vss_cons (vs_if (vt_cmp (op_eqAll (hu64 hr)) ops_eq (ve_var (pv 4)) ve_str (nomark _)) (vss_one (vs_ret (ve_call (fun ta ha => gp_call (ok_same T 12) (hr.mono (by omega)) gd (by rfl) T.g_same T.F_same.kp (bi_same T) .nil pass0 ha) (fun _ _ => .nil) (va_cons (ve_ix ix_seq ops_ix (ve_var (pv 2)) (ve_var (pv 3)) (fun _ _ => rfl)) (va_cons (ve_var (pv 5)) va_nil (by rfl)) (by rfl))))) vss_nil)
  (vss_cons (vs_if (vw_pt (vw_or (vt_not (vt_val (ve_call (fun ta ha => gp_call (ok_is_whole T) (hr.mono (by omega)) gd (by rfl) T.g_is_whole T.F_is_whole.kp (bi_is_whole T) .nil pass0 ha) (fun _ _ => .nil) (va_cons (ve_ix ix_seq ops_ix (ve_var (pv 2)) (ve_var (pv 3)) (fun _ _ => rfl)) va_nil (by rfl))) (by intro _; rfl))) (vw_one (vt_not (vt_val (ve_call (fun ta ha => gp_call (ok_is_whole T) (hr.mono (by omega)) gd (by rfl) T.g_is_whole T.F_is_whole.kp (bi_is_whole T) .nil pass0 ha) (fun _ _ => .nil) (va_cons (ve_var (pv 5)) va_nil (by rfl))) (by intro _; rfl)))))) (vss_one (vs_ret ve_bl)) vss_nil)
  (vss_one (vs_ret (ve_if (vt_cmp (op_eqAll (hu64 hr)) ops_eq (ve_var (pv 4)) ve_str (nomark _)) (ve_cmp (op_ltAll hr) ops_ltAll (ve_ix ix_seq ops_ix (ve_var (pv 2)) (ve_var (pv 3)) (fun _ _ => rfl)) (ve_var (pv 5)) (nomark _)) (ve_cmp op_gtA ops_gtA (ve_ix ix_seq ops_ix (ve_var (pv 2)) (ve_var (pv 3)) (fun _ _ => rfl)) (ve_var (pv 5)) (nomark _)))))))))) (by omega)
def t_meets : TVS := (vRet (vCB fAll (vCons (vLc (vSeqI (vVar 1)) (vgName 2) (fun _ Q => Q true) (vCall 2 m_meets_cond [] (vCons (vVar 0) (vCons (vVar 2) vNil))) [2]) vNil)))
def m_meets : TF := vDef 3 t_meets
theorem e_meets : m_meets = vDef 3 (vRet (vCB fAll (vCons (vLc (vSeqI (vVar 1)) (vgName 2) (fun _ Q => Q true) (vCall 2 m_meets_cond [] (vCons (vVar 0) (vCons (vVar 2) vNil))) [2]) vNil))) := rfl
set_option maxHeartbeats 4000000 in
theorem ok_meets (T : Txt K mg w) : GOk P w K mg base CX0 28 T.a_meets T.fd_meets ["row", "conds"] (spOf K 2 0 m_meets) := by
  refine def_bodyD T.F_meets sc_meets fun f cdv A outer s H E hr gd => ?_
  exact ex_k (vss_one (vs_ret (ve_cb (fun ta ha => pe_callB (cr_all rfl) (by rfl) T.b_all (by decide +kernel) ha) cs_all (va_cons (ve_lc (fun _ _ _ _ a b c d => pe_lc (own := [("cond", 2)]) rfl sc_meets.nd a (blkOk_by (own := [("cond", 2)]) (N := N_meets) (sc := defScope s_meets) (by decide +kernel)) b c d) (vi_seq (ve_var (pv 1))) (fun _ _ _ _ _ => (vtg_name (pg_name (i := 2) sc_meets.nd rfl (Or.inl rfl)))) (fun _ _ _ _ _ => vts_nil) (fun _ _ _ _ _ => (ve_call (fun ta ha => gp_call (ok_meets_cond T) (hr.mono (by omega)) gd (by rfl) T.g_meets_cond T.F_meets_cond.kp (bi_meets_cond T) .nil pass0 ha) (fun _ _ => .nil) (va_cons (ve_var (pv 0)) (va_cons (ve_var (pv 2)) va_nil (by rfl)) (by rfl)))) (by decide)) va_nil (by rfl))))) (by omega)
def b_answer_by_0 : TVS := (vRet (vCB fSumQ (vCons (vLc (vSeqI (vVar 2)) (vgName 4) (vAnd (vTest (vBin fLtD (vVar 3) (vCB fLen (vCons (vBin fIx (vVar 4) (vC (.int 3))) vNil)))) (vTest (vCall 1 m_is_whole [] (vCons (vBin fIx (vBin fIx (vVar 4) (vC (.int 3))) (vVar 3)) vNil)))) (vBin fIx (vBin fIx (vVar 4) (vC (.int 3))) (vVar 3)) [4]) vNil)))
def b_answer_by_1 : TVS := (vSeq (vAsg 3 (vBin fIx (vVar 1) (vC (.int 2))))
  b_answer_by_0)
def b_answer_by_2 : TVS := (vSeq (vIfS (vTest (vBin (fEq false) (vBin fIx (vVar 1) (vC (.int 0))) (vC (.str "rows")))) (vRet (vCB fTuple (vCons (vLc (vSeqI (vSl (vVar 2) (fun _ Q => Q none) (vSome (vBin fIx (vVar 1) (vC (.int 3)))))) (vgName 4) (fun _ Q => Q true) (vBin fIx (vVar 4) (vC (.int 0))) [4]) vNil))) vNext)
  b_answer_by_1)
def b_answer_by_3 : TVS := (vSeq (vIfS (vTest (vBin (fEq false) (vBin fIx (vVar 1) (vC (.int 0))) (vC (.str "count")))) (vRet (vCB fLen (vCons (vVar 2) vNil))) vNext)
  b_answer_by_2)
def b_answer_by_4 : TVS := (vSeq (if false = true then vAsgO 2 (vLc (vSeqI (vVar 0)) (vgName 4) (vTest (vCall 2 m_meets [] (vCons (vVar 4) (vCons (vCall 1 m_conds_of [] (vCons (vVar 1) vNil)) vNil)))) (vVar 4) [4]) else vAsg 2 (vLc (vSeqI (vVar 0)) (vgName 4) (vTest (vCall 2 m_meets [] (vCons (vVar 4) (vCons (vCall 1 m_conds_of [] (vCons (vVar 1) vNil)) vNil)))) (vVar 4) [4]))
  b_answer_by_3)
def t_answer_by : TVS := (vSeq (if false = true then vAsgO 2 (vLc (vSeqI (vVar 0)) (vgName 4) (vTest (vCall 2 m_meets [] (vCons (vVar 4) (vCons (vCall 1 m_conds_of [] (vCons (vVar 1) vNil)) vNil)))) (vVar 4) [4]) else vAsg 2 (vLc (vSeqI (vVar 0)) (vgName 4) (vTest (vCall 2 m_meets [] (vCons (vVar 4) (vCons (vCall 1 m_conds_of [] (vCons (vVar 1) vNil)) vNil)))) (vVar 4) [4]))
  (vSeq (vIfS (vTest (vBin (fEq false) (vBin fIx (vVar 1) (vC (.int 0))) (vC (.str "count")))) (vRet (vCB fLen (vCons (vVar 2) vNil))) vNext)
  (vSeq (vIfS (vTest (vBin (fEq false) (vBin fIx (vVar 1) (vC (.int 0))) (vC (.str "rows")))) (vRet (vCB fTuple (vCons (vLc (vSeqI (vSl (vVar 2) (fun _ Q => Q none) (vSome (vBin fIx (vVar 1) (vC (.int 3)))))) (vgName 4) (fun _ Q => Q true) (vBin fIx (vVar 4) (vC (.int 0))) [4]) vNil))) vNext)
  (vSeq (vAsg 3 (vBin fIx (vVar 1) (vC (.int 2))))
  (vRet (vCB fSumQ (vCons (vLc (vSeqI (vVar 2)) (vgName 4) (vAnd (vTest (vBin fLtD (vVar 3) (vCB fLen (vCons (vBin fIx (vVar 4) (vC (.int 3))) vNil)))) (vTest (vCall 1 m_is_whole [] (vCons (vBin fIx (vBin fIx (vVar 4) (vC (.int 3))) (vVar 3)) vNil)))) (vBin fIx (vBin fIx (vVar 4) (vC (.int 3))) (vVar 3)) [4]) vNil)))))))
def m_answer_by : TF := vDef 5 t_answer_by
theorem e_answer_by : m_answer_by = vDef 5 b_answer_by_4 := rfl
set_option maxHeartbeats 4000000 in
theorem ok_answer_by (T : Txt K mg w) : GOk P w K mg base CX0 29 T.a_answer_by T.fd_answer_by ["rows", "ask"] (spOf K 2 0 m_answer_by) := by
  refine def_bodyD T.F_answer_by sc_answer_by fun f cdv A outer s H E hr gd => ?_
  exact ex_k (vss_cons (vs_setLc false (fun _ _ _ _ a b c d => ps_setLc (own := [("row", 4)]) rfl sc_answer_by.nd rfl rfl (sw_true rfl rfl rfl (by decide +kernel)) a (blkOk_by (own := [("row", 4)]) (N := N_answer_by) (sc := defScope s_answer_by) (by decide +kernel)) b c d) (vi_seq (ve_var (pv 0))) (fun _ _ _ _ _ => (vtg_name (pg_name (i := 4) sc_answer_by.nd rfl (Or.inl rfl)))) (fun _ _ _ _ _ => (vts_one (vt_val (ve_call (fun ta ha => gp_call (ok_meets T) (hr.mono (by omega)) gd (by rfl) T.g_meets T.F_meets.kp (bi_meets T) .nil pass0 ha) (fun _ _ => .nil) (va_cons (ve_var (pv 4)) (va_cons (ve_call (fun ta ha => gp_call (ok_conds_of T) (hr.mono (by omega)) gd (by rfl) T.g_conds_of T.F_conds_of.kp (bi_conds_of T) .nil pass0 ha) (fun _ _ => .nil) (va_cons (ve_var (pv 1)) va_nil (by rfl))) va_nil (by rfl)) (by rfl))) (by intro _; rfl)))) (fun _ _ _ _ _ => (ve_var (pv 4))) (by decide))
  (vss_cons (vs_if (vt_cmp (op_eqAll (hu64 hr)) ops_eq (ve_ix ix_seq ops_ix (ve_var (pv 1)) ve_int (fun _ _ => rfl)) ve_str (nomark _)) (vss_one (vs_ret (ve_cb (fun ta ha => pe_callB call_lenA (by rfl) T.b_len (by decide +kernel) ha) cs_len (va_cons (ve_var (pv 2)) va_nil (by rfl))))) vss_nil)
  (vss_cons (vs_if (vt_cmp (op_eqAll (hu64 hr)) ops_eq (ve_ix ix_seq ops_ix (ve_var (pv 1)) ve_int (fun _ _ => rfl)) ve_str (nomark _)) (vss_one (vs_ret (ve_cb (fun ta ha => pe_callTy call_tupOfN (by rfl) T.b_tuple (by decide +kernel) ha) cs_tuple (va_cons (ve_lc (fun _ _ _ _ a b c d => pe_lc (own := [("row", 4)]) rfl sc_answer_by.nd a (blkOk_by (own := [("row", 4)]) (N := N_answer_by) (sc := defScope s_answer_by) (by decide +kernel)) b c d) (vi_seq (ve_sl (ve_var (pv 2)) vo_none (vo_some (ve_ix ix_seq ops_ix (ve_var (pv 1)) ve_int (fun _ _ => rfl))))) (fun _ _ _ _ _ => (vtg_name (pg_name (i := 4) sc_answer_by.nd rfl (Or.inl rfl)))) (fun _ _ _ _ _ => vts_nil) (fun _ _ _ _ _ => (ve_ix ix_seq ops_ix (ve_var (pv 4)) ve_int (fun _ _ => rfl))) (by decide)) va_nil (by rfl))))) vss_nil)
  (vss_cons (vs_asg (fun te he => ps_set (i := 3) sc_answer_by.nd rfl (Or.inr rfl) he) (ve_ix ix_seq ops_ix (ve_var (pv 1)) ve_int (fun _ _ => rfl)))
  (vss_one (vs_ret (ve_cb (fun ta ha => pe_callB (cr_sumQ rfl) (by rfl) T.b_sum (by decide +kernel) ha) cs_sumQ (va_cons (ve_lc (fun _ _ _ _ a b c d => pe_lc (own := [("row", 4)]) rfl sc_answer_by.nd a (blkOk_by (own := [("row", 4)]) (N := N_answer_by) (sc := defScope s_answer_by) (by decide +kernel)) b c d) (vi_seq (ve_var (pv 2))) (fun _ _ _ _ _ => (vtg_name (pg_name (i := 4) sc_answer_by.nd rfl (Or.inl rfl)))) (fun _ _ _ _ _ => (vts_one (vw_pt (vw_and (vt_cmp (op_ltAll hr) ops_ltAll (ve_var (pv 3)) (ve_cb (fun ta ha => pe_callB call_lenA (by rfl) T.b_len (by decide +kernel) ha) cs_len (va_cons (ve_ix ix_seq ops_ix (ve_var (pv 4)) ve_int (fun _ _ => rfl)) va_nil (by rfl))) (nomark _)) (vw_one (vt_val (ve_call (fun ta ha => gp_call (ok_is_whole T) (hr.mono (by omega)) gd (by rfl) T.g_is_whole T.F_is_whole.kp (bi_is_whole T) .nil pass0 ha) (fun _ _ => .nil) (va_cons (ve_ix ix_seq ops_ix (ve_ix ix_seq ops_ix (ve_var (pv 4)) ve_int (fun _ _ => rfl)) (ve_var (pv 3)) (fun _ _ => rfl)) va_nil (by rfl))) (by intro _; rfl))))))) (fun _ _ _ _ _ => (ve_ix ix_seq ops_ix (ve_ix ix_seq ops_ix (ve_var (pv 4)) ve_int (fun _ _ => rfl)) (ve_var (pv 3)) (fun _ _ => rfl))) (by decide)) va_nil (by rfl))))))))) (by omega)
def b_answer_of_0 : TVS := (vRet (vBin fIx (vVar 2) (vC (.int 3))))
def b_answer_of_1 : TVS := (vSeq (vIfS (vTest (vBin (fEq false) (vBin fIx (vVar 1) (vC (.int 0))) (vC (.str "follow")))) (vAsg 2 (vCall 3 m_row_linked [] (vCons (vVar 0) (vCons (vVar 2) (vCons (vBin fIx (vVar 1) (vC (.int 3))) vNil))))) vNext)
  b_answer_of_0)
def b_answer_of_2 : TVS := (vSeq (vAsg 2 (vCall 3 m_row_of [] (vCons (vVar 0) (vCons (vBin fIx (vVar 1) (vC (.int 1))) (vCons (vBin fIx (vVar 1) (vC (.int 2))) vNil)))))
  b_answer_of_1)
def b_answer_of_3 : TVS := (vSeq (vIfS (vTest (vCall 1 m_looks [] (vCons (vVar 1) vNil))) (vRet (vCall 2 m_answer_by [] (vCons (vCall 2 m_rows_of [] (vCons (vVar 0) (vCons (vBin fIx (vVar 1) (vC (.int 1))) vNil))) (vCons (vVar 1) vNil)))) vNext)
  b_answer_of_2)
def t_answer_of : TVS := (vSeq (vIfS (vTest (vCall 1 m_looks [] (vCons (vVar 1) vNil))) (vRet (vCall 2 m_answer_by [] (vCons (vCall 2 m_rows_of [] (vCons (vVar 0) (vCons (vBin fIx (vVar 1) (vC (.int 1))) vNil))) (vCons (vVar 1) vNil)))) vNext)
  (vSeq (vAsg 2 (vCall 3 m_row_of [] (vCons (vVar 0) (vCons (vBin fIx (vVar 1) (vC (.int 1))) (vCons (vBin fIx (vVar 1) (vC (.int 2))) vNil)))))
  (vSeq (vIfS (vTest (vBin (fEq false) (vBin fIx (vVar 1) (vC (.int 0))) (vC (.str "follow")))) (vAsg 2 (vCall 3 m_row_linked [] (vCons (vVar 0) (vCons (vVar 2) (vCons (vBin fIx (vVar 1) (vC (.int 3))) vNil))))) vNext)
  (vRet (vBin fIx (vVar 2) (vC (.int 3)))))))
def m_answer_of : TF := vDef 3 t_answer_of
theorem e_answer_of : m_answer_of = vDef 3 b_answer_of_3 := rfl
set_option maxHeartbeats 4000000 in
theorem ok_answer_of (T : Txt K mg w) : GOk P w K mg base CX0 30 T.a_answer_of T.fd_answer_of ["store", "ask"] (spOf K 2 0 m_answer_of) := by
  refine def_bodyD T.F_answer_of sc_answer_of fun f cdv A outer s H E hr gd => ?_
  exact ex_k (vss_cons (vs_if (vt_val (ve_call (fun ta ha => gp_call (ok_looks T) (hr.mono (by omega)) gd (by rfl) T.g_looks T.F_looks.kp (bi_looks T) .nil pass0 ha) (fun _ _ => .nil) (va_cons (ve_var (pv 1)) va_nil (by rfl))) (by intro _; rfl)) (vss_one (vs_ret (ve_call (fun ta ha => gp_call (ok_answer_by T) (hr.mono (by omega)) gd (by rfl) T.g_answer_by T.F_answer_by.kp (bi_answer_by T) .nil pass0 ha) (fun _ _ => .nil) (va_cons (ve_call (fun ta ha => gp_call (ok_rows_of T) (hr.mono (by omega)) gd (by rfl) T.g_rows_of T.F_rows_of.kp (bi_rows_of T) .nil pass0 ha) (fun _ _ => .nil) (va_cons (ve_var (pv 0)) (va_cons (ve_ix ix_seq ops_ix (ve_var (pv 1)) ve_int (fun _ _ => rfl)) va_nil (by rfl)) (by rfl))) (va_cons (ve_var (pv 1)) va_nil (by rfl)) (by rfl))))) vss_nil)
  (vss_cons (vs_asg (fun te he => ps_set (i := 2) sc_answer_of.nd rfl (Or.inl rfl) he) (ve_call (fun ta ha => gp_call (ok_row_of T) (hr.mono (by omega)) gd (by rfl) T.g_row_of T.F_row_of.kp (bi_row_of T) .nil pass0 ha) (fun _ _ => .nil) (va_cons (ve_var (pv 0)) (va_cons (ve_ix ix_seq ops_ix (ve_var (pv 1)) ve_int (fun _ _ => rfl)) (va_cons (ve_ix ix_seq ops_ix (ve_var (pv 1)) ve_int (fun _ _ => rfl)) va_nil (by rfl)) (by rfl)) (by rfl))))
  (vss_cons (vs_if (vt_cmp (op_eqAll (hu64 hr)) ops_eq (ve_ix ix_seq ops_ix (ve_var (pv 1)) ve_int (fun _ _ => rfl)) ve_str (nomark _)) (vss_one (vs_asg (fun te he => ps_set (i := 2) sc_answer_of.nd rfl (Or.inl rfl) he) (ve_call (fun ta ha => gp_call (ok_row_linked T) (hr.mono (by omega)) gd (by rfl) T.g_row_linked T.F_row_linked.kp (bi_row_linked T) .nil pass0 ha) (fun _ _ => .nil) (va_cons (ve_var (pv 0)) (va_cons (ve_var (pv 2)) (va_cons (ve_ix ix_seq ops_ix (ve_var (pv 1)) ve_int (fun _ _ => rfl)) va_nil (by rfl)) (by rfl)) (by rfl))))) vss_nil)
  (vss_one (vs_ret (ve_ix ix_seq ops_ix (ve_var (pv 2)) ve_int (fun _ _ => rfl))))))) (by omega)
def b_done_job_0 : TVS := (vRet (vCall 2 m_row_done [] (vCons (vVar 0) (vCons (vVar 1) vNil))))
def b_done_job_1 : TVS := (vSeq (vIfS (vTest (vBin (fEq false) (vBin fIx (vVar 1) (vC (.int 0))) (vC (.str "index")))) (vRet (vCall 2 m_index_done [] (vCons (vVar 0) (vCons (vVar 1) vNil)))) vNext)
  b_done_job_0)
def b_done_job_2 : TVS := (vSeq (vIfS (vTest (vBin (fEq false) (vBin fIx (vVar 1) (vC (.int 0))) (vC (.str "put")))) (vRet (vCall 3 m_put_done [] (vCons (vVar 0) (vCons (vVar 1) (vCons (vVar 2) vNil))))) vNext)
  b_done_job_1)
def b_done_job_3 : TVS := (vSeq (vIfS (vTest (vCall 1 m_is_ask [] (vCons (vVar 1) vNil))) (vRet (vTup (vCons (vVar 0) (vCons (vCall 2 m_answer_of [] (vCons (vVar 0) (vCons (vVar 1) vNil))) vNil)))) vNext)
  b_done_job_2)
def b_done_job_4 : TVS := (vSeq (vIfS (vTest (vBin (fIsN true) (vVar 5) (vC .none))) (vRet (vTup (vCons (vVar 0) (vCons (vTup (vCons (vC (.str "no")) (vCons (vVar 5) vNil))) vNil)))) vNext)
  b_done_job_3)
def b_done_job_5 : TVS := (vSeq (vAsg 5 (vCallK 2 3 5 m_refusal_of (vCons (vVar 0) (vCons (vVar 1) vNil)) (vCons (vVar 2) (vCons (vVar 3) (vCons (vVar 4) vNil)))))
  b_done_job_4)
def t_done_job : TVS := (vSeq (vAsg 5 (vCallK 2 3 5 m_refusal_of (vCons (vVar 0) (vCons (vVar 1) vNil)) (vCons (vVar 2) (vCons (vVar 3) (vCons (vVar 4) vNil)))))
  (vSeq (vIfS (vTest (vBin (fIsN true) (vVar 5) (vC .none))) (vRet (vTup (vCons (vVar 0) (vCons (vTup (vCons (vC (.str "no")) (vCons (vVar 5) vNil))) vNil)))) vNext)
  (vSeq (vIfS (vTest (vCall 1 m_is_ask [] (vCons (vVar 1) vNil))) (vRet (vTup (vCons (vVar 0) (vCons (vCall 2 m_answer_of [] (vCons (vVar 0) (vCons (vVar 1) vNil))) vNil)))) vNext)
  (vSeq (vIfS (vTest (vBin (fEq false) (vBin fIx (vVar 1) (vC (.int 0))) (vC (.str "put")))) (vRet (vCall 3 m_put_done [] (vCons (vVar 0) (vCons (vVar 1) (vCons (vVar 2) vNil))))) vNext)
  (vSeq (vIfS (vTest (vBin (fEq false) (vBin fIx (vVar 1) (vC (.int 0))) (vC (.str "index")))) (vRet (vCall 2 m_index_done [] (vCons (vVar 0) (vCons (vVar 1) vNil)))) vNext)
  (vRet (vCall 2 m_row_done [] (vCons (vVar 0) (vCons (vVar 1) vNil)))))))))
def m_done_job : TF := vDef 6 t_done_job
theorem e_done_job : m_done_job = vDef 6 b_done_job_5 := rfl
set_option maxHeartbeats 4000000 in
theorem ok_done_job (T : Txt K mg w) : GOk P w K mg base CX0 31 T.a_done_job T.fd_done_job ["store", "job", "tick", "land", "rules"] (spOf K 5 0 m_done_job) := by
  refine def_bodyD T.F_done_job sc_done_job fun f cdv A outer s H E hr gd => ?_
  exact ex_k (vss_cons (vs_asg (fun te he => ps_set (i := 5) sc_done_job.nd rfl (Or.inl rfl) he) (ve_callK (fun ta tk ha hk => gp_callK (ok_refusal_of T) (hr.mono (by omega)) gd (by rfl) T.g_refusal_of T.F_refusal_of.kp (kb_refusal_of T) pass0 ha hk) (va_cons (ve_var (pv 0)) (va_cons (ve_var (pv 1)) va_nil (by rfl)) (by rfl)) (vk_cons (ve_var (pv 2)) (vk_cons (ve_var (pv 3)) (vk_cons (ve_var (pv 4)) vk_nil)))))
  (vss_cons (vs_if (vt_cmp op_notN ops_notN (ve_var (pv 5)) ve_non (nomark _)) (vss_one (vs_ret (ve_tup (va_cons (ve_var (pv 0)) (va_cons (ve_tup (va_cons ve_str (va_cons (ve_var (pv 5)) va_nil (by rfl)) (by rfl))) va_nil (by rfl)) (by rfl))))) vss_nil)
  (vss_cons (vs_if (vt_val (ve_call (fun ta ha => gp_call (ok_is_ask T) (hr.mono (by omega)) gd (by rfl) T.g_is_ask T.F_is_ask.kp (bi_is_ask T) .nil pass0 ha) (fun _ _ => .nil) (va_cons (ve_var (pv 1)) va_nil (by rfl))) (by intro _; rfl)) (vss_one (vs_ret (ve_tup (va_cons (ve_var (pv 0)) (va_cons (ve_call (fun ta ha => gp_call (ok_answer_of T) (hr.mono (by omega)) gd (by rfl) T.g_answer_of T.F_answer_of.kp (bi_answer_of T) .nil pass0 ha) (fun _ _ => .nil) (va_cons (ve_var (pv 0)) (va_cons (ve_var (pv 1)) va_nil (by rfl)) (by rfl))) va_nil (by rfl)) (by rfl))))) vss_nil)
  (vss_cons (vs_if (vt_cmp (op_eqAll (hu64 hr)) ops_eq (ve_ix ix_seq ops_ix (ve_var (pv 1)) ve_int (fun _ _ => rfl)) ve_str (nomark _)) (vss_one (vs_ret (ve_call (fun ta ha => gp_call (ok_put_done T) (hr.mono (by omega)) gd (by rfl) T.g_put_done T.F_put_done.kp (bi_put_done T) .nil pass0 ha) (fun _ _ => .nil) (va_cons (ve_var (pv 0)) (va_cons (ve_var (pv 1)) (va_cons (ve_var (pv 2)) va_nil (by rfl)) (by rfl)) (by rfl))))) vss_nil)
  (vss_cons (vs_if (vt_cmp (op_eqAll (hu64 hr)) ops_eq (ve_ix ix_seq ops_ix (ve_var (pv 1)) ve_int (fun _ _ => rfl)) ve_str (nomark _)) (vss_one (vs_ret (ve_call (fun ta ha => gp_call (ok_index_done T) (hr.mono (by omega)) gd (by rfl) T.g_index_done T.F_index_done.kp (bi_index_done T) .nil pass0 ha) (fun _ _ => .nil) (va_cons (ve_var (pv 0)) (va_cons (ve_var (pv 1)) va_nil (by rfl)) (by rfl))))) vss_nil)
  (vss_one (vs_ret (ve_call (fun ta ha => gp_call (ok_row_done T) (hr.mono (by omega)) gd (by rfl) T.g_row_done T.F_row_done.kp (bi_row_done T) .nil pass0 ha) (fun _ _ => .nil) (va_cons (ve_var (pv 0)) (va_cons (ve_var (pv 1)) va_nil (by rfl)) (by rfl)))))))))) (by omega)
def b_law_0 : TVS := (vIfS (vOr (vTest (vBin (fEq true) (vCB fRepr (vCons (vCallK 2 2 4 m_broken_by (vCons (vVar 6) (vCons (vVar 7) vNil)) (vCons (vVar 8) (vCons (vVar 3) vNil))) vNil)) (vVar 10))) (vTest (vBin (fEq true) (vCB fRepr (vCons (vTup (vCons (vVar 6) (vCons (vVar 3) vNil))) vNil)) (vVar 9)))) (vRet (vC (.bool false))) vNext)
def b_law_1 : TVS := (vSeq (vPar 9 10 (vCons (vCB fRepr (vCons (vTup (vCons (vVar 6) (vCons (vVar 3) vNil))) vNil)) (vCons (vCB fRepr (vCons (vCall 4 m_law_breaks [] (vCons (vVar 6) (vCons (vVar 7) (vCons (vVar 3) (vCons (vVar 8) vNil))))) vNil)) vNil)))
  b_law_0)
def b_law_2 : TVS := (vIfS (vTest (vBin (fIsN true) (vCallD 2 1 4 [0, 1, 2, 3] m_broken_by [(PyData.tuple [])] (vCons (vVar 6) (vCons (vVar 7) vNil)) (vCons (vC (.str "us")) vNil)) (vC .none))) (vRet (vC (.bool false))) vNext)
def b_law_3 : TVS := (vSeq (vFor (vSeqI (vTup (vCons (vC (.str "eu")) (vCons (vC (.str "us")) (vCons (vC (.str "zz")) vNil))))) (vgName 8)
  b_law_1)
  b_law_2)
def b_law_4 : TVS := (vIfS (vTest (vCall 2 m_law_is_done [] (vCons (vVar 6) (vCons (vVar 7) vNil)))) b_law_3 vNext)
def b_law_5 : TVS := (vSeq (vAsgT (vCallD 2 2 5 [0, 1, 2, 3, 4] m_done_job [(PyData.tuple [])] (vCons (vVar 4) (vCons (vVar 6) vNil)) (vCons (vVar 5) (vCons (vC (.str "eu")) vNil))) (vgTup 2 (vgCons (vgName 4) (vgCons (vgName 7) vgNil))))
  b_law_4)
def b_law_6 : TVS := (vSeq (vAsg 6 (vCall 2 m_law_deed [] (vCons (vVar 1) (vCons (vVar 4) vNil))))
  b_law_5)
def b_law_7 : TVS := (vForL 100 (vRng1 (vCons (vC (.int 16)) vNil)) (vgName 5)
  b_law_6)
def b_law_8 : TVS := (vSeq (vAsg 4 (vTup vNil))
  b_law_7)
def b_law_9 : TVS := (vSeq (vAsg 3 (vCall 2 m_law_rules [] (vCons (vVar 1) (vCons (vLst (vCons (vC (.str "stay")) (vCons (vC (.str "kept")) (vCons (vC (.str "told")) vNil)))) vNil))))
  b_law_8)
def b_law_10 : TVS := (vRet (vC (.bool true)))
def b_law_11 : TVS := (vSeq (vForL 100 (vRng1 (vCons (vC (.int 3)) vNil)) (vgName 2)
  b_law_9)
  b_law_10)
def b_law_12 : TVS := (vSeq (vAsg 1 (vCall 1 m_law_tape [] (vCons (vVar 0) vNil)))
  b_law_11)
def t_law : TVS := (vSeq (vAsg 1 (vCall 1 m_law_tape [] (vCons (vVar 0) vNil)))
  (vSeq (vForL 100 (vRng1 (vCons (vC (.int 3)) vNil)) (vgName 2)
  (vSeq (vAsg 3 (vCall 2 m_law_rules [] (vCons (vVar 1) (vCons (vLst (vCons (vC (.str "stay")) (vCons (vC (.str "kept")) (vCons (vC (.str "told")) vNil)))) vNil))))
  (vSeq (vAsg 4 (vTup vNil))
  (vForL 100 (vRng1 (vCons (vC (.int 16)) vNil)) (vgName 5)
  (vSeq (vAsg 6 (vCall 2 m_law_deed [] (vCons (vVar 1) (vCons (vVar 4) vNil))))
  (vSeq (vAsgT (vCallD 2 2 5 [0, 1, 2, 3, 4] m_done_job [(PyData.tuple [])] (vCons (vVar 4) (vCons (vVar 6) vNil)) (vCons (vVar 5) (vCons (vC (.str "eu")) vNil))) (vgTup 2 (vgCons (vgName 4) (vgCons (vgName 7) vgNil))))
  (vIfS (vTest (vCall 2 m_law_is_done [] (vCons (vVar 6) (vCons (vVar 7) vNil)))) (vSeq (vFor (vSeqI (vTup (vCons (vC (.str "eu")) (vCons (vC (.str "us")) (vCons (vC (.str "zz")) vNil))))) (vgName 8)
  (vSeq (vPar 9 10 (vCons (vCB fRepr (vCons (vTup (vCons (vVar 6) (vCons (vVar 3) vNil))) vNil)) (vCons (vCB fRepr (vCons (vCall 4 m_law_breaks [] (vCons (vVar 6) (vCons (vVar 7) (vCons (vVar 3) (vCons (vVar 8) vNil))))) vNil)) vNil)))
  (vIfS (vOr (vTest (vBin (fEq true) (vCB fRepr (vCons (vCallK 2 2 4 m_broken_by (vCons (vVar 6) (vCons (vVar 7) vNil)) (vCons (vVar 8) (vCons (vVar 3) vNil))) vNil)) (vVar 10))) (vTest (vBin (fEq true) (vCB fRepr (vCons (vTup (vCons (vVar 6) (vCons (vVar 3) vNil))) vNil)) (vVar 9)))) (vRet (vC (.bool false))) vNext)))
  (vIfS (vTest (vBin (fIsN true) (vCallD 2 1 4 [0, 1, 2, 3] m_broken_by [(PyData.tuple [])] (vCons (vVar 6) (vCons (vVar 7) vNil)) (vCons (vC (.str "us")) vNil)) (vC .none))) (vRet (vC (.bool false))) vNext)) vNext)))))))
  (vRet (vC (.bool true)))))
def m_law : TF := vDef 11 t_law
theorem e_law : m_law = vDef 11 b_law_12 := rfl
set_option maxHeartbeats 4000000 in
theorem ok_law (T : Txt K mg w) : GOk P w K mg base CX0 32 T.a_law T.fd_law ["_law_script"] (spOf K 1 6130000 m_law) := by
  refine def_bodyD T.F_law sc_law fun f cdv A outer s H E hr gd => ?_
  exact ex_k (vss_cons (vs_asg (fun te he => ps_set (i := 1) sc_law.nd rfl (Or.inl rfl) he) (ve_call (fun ta ha => gp_call (ok_law_tape T) (hr.mono (by omega)) gd (by rfl) T.g_law_tape T.F_law_tape.kp (bi_law_tape T) .nil pass0 ha) (fun _ _ => .nil) (va_cons (ve_var (pv 0)) va_nil (by rfl))))
  (vss_cons (vs_forL 100 (fun _ _ _ a b c => ps_for PassesOwn.never rfl a b c) (vi_range1 (fun ta ha => pi_range1 (by rfl) T.b_range ha) (va_cons ve_int va_nil (by rfl))) (vtg_name (pg_name (i := 2) sc_law.nd rfl (Or.inl rfl)))
  (vss_cons (vs_asg (fun te he => ps_set (i := 3) sc_law.nd rfl (Or.inl rfl) he) (ve_call (fun ta ha => gp_call (ok_law_rules T) (hr.mono (by omega)) gd (by rfl) T.g_law_rules T.F_law_rules.kp (bi_law_rules T) .nil pass0 ha) (fun _ _ => .nil) (va_cons (ve_var (pv 1)) (va_cons (ve_lst (va_cons ve_str (va_cons ve_str (va_cons ve_str va_nil (by rfl)) (by rfl)) (by rfl))) va_nil (by rfl)) (by rfl))))
  (vss_cons (vs_asg (fun te he => ps_set (i := 4) sc_law.nd rfl (Or.inl rfl) he) (ve_tup va_nil))
  (vss_one (vs_forL 100 (fun _ _ _ a b c => ps_for PassesOwn.never rfl a b c) (vi_range1 (fun ta ha => pi_range1 (by rfl) T.b_range ha) (va_cons ve_int va_nil (by rfl))) (vtg_name (pg_name (i := 5) sc_law.nd rfl (Or.inl rfl)))
  (vss_cons (vs_asg (fun te he => ps_set (i := 6) sc_law.nd rfl (Or.inl rfl) he) (ve_call (fun ta ha => gp_call (ok_law_deed T) (hr.mono (by omega)) gd (by rfl) T.g_law_deed T.F_law_deed.kp (bi_law_deed T) .nil pass0 ha) (fun _ _ => .nil) (va_cons (ve_var (pv 1)) (va_cons (ve_var (pv 4)) va_nil (by rfl)) (by rfl))))
  (vss_cons (vs_asgT (fun _ _ a b => ps_asg a b) (let ⟨_, hb⟩ := kp_done_job_2_tick_land T; ve_callD (fun ta tk ha hk => gp_callK (ok_done_job T) (hr.mono (by omega)) gd (by rfl) T.g_done_job T.F_done_job.kp hb pass0 ha hk) (fun F H => drp_done_job_2_tick_land T F H) (va_cons (ve_var (pv 4)) (va_cons (ve_var (pv 6)) va_nil (by rfl)) (by rfl)) (vk_cons (ve_var (pv 5)) (vk_cons ve_str vk_nil))) (vtg_tup rfl (vtgs_cons (vtg_name (pg_name (i := 4) sc_law.nd rfl (Or.inl rfl))) (vtgs_cons (vtg_name (pg_name (i := 7) sc_law.nd rfl (Or.inl rfl))) vtgs_nil (fun _ _ a b => pgs_cons a b)) (fun _ _ a b => pgs_cons a b)) (by rfl) (by rfl)))
  (vss_one (vs_if (vt_val (ve_call (fun ta ha => gp_call (ok_law_is_done T) (hr.mono (by omega)) gd (by rfl) T.g_law_is_done T.F_law_is_done.kp (bi_law_is_done T) .nil pass0 ha) (fun _ _ => .nil) (va_cons (ve_var (pv 6)) (va_cons (ve_var (pv 7)) va_nil (by rfl)) (by rfl))) (by intro _; rfl)) (vss_cons (vs_for (fun _ _ _ a b c => ps_for PassesOwn.never rfl a b c) (vi_seq (ve_tup (va_cons ve_str (va_cons ve_str (va_cons ve_str va_nil (by rfl)) (by rfl)) (by rfl)))) (vtg_name (pg_name (i := 8) sc_law.nd rfl (Or.inl rfl)))
  (vss_cons (vs_par (fun ta ha => ps_par (by rfl) sc_law.nd rfl rfl (by decide) rfl rfl ha (by rfl)) (va_cons (ve_cb (fun ta ha => pe_callB (call_repr hr gd) (by rfl) T.b_repr (by decide +kernel) ha) cs_repr (va_cons (ve_tup (va_cons (ve_var (pv 6)) (va_cons (ve_var (pv 3)) va_nil (by rfl)) (by rfl))) va_nil (by rfl))) (va_cons (ve_cb (fun ta ha => pe_callB (call_repr hr gd) (by rfl) T.b_repr (by decide +kernel) ha) cs_repr (va_cons (ve_call (fun ta ha => gp_call (ok_law_breaks T) (hr.mono (by omega)) gd (by rfl) T.g_law_breaks T.F_law_breaks.kp (bi_law_breaks T) .nil pass0 ha) (fun _ _ => .nil) (va_cons (ve_var (pv 6)) (va_cons (ve_var (pv 7)) (va_cons (ve_var (pv 3)) (va_cons (ve_var (pv 8)) va_nil (by rfl)) (by rfl)) (by rfl)) (by rfl))) va_nil (by rfl))) va_nil (by rfl)) (by rfl)))
  (vss_one (vs_if (vw_pt (vw_or (vt_cmp (op_neAll (hu64 hr)) ops_ne (ve_cb (fun ta ha => pe_callB (call_repr hr gd) (by rfl) T.b_repr (by decide +kernel) ha) cs_repr (va_cons (ve_callK (fun ta tk ha hk => gp_callK (ok_broken_by T) (hr.mono (by omega)) gd (by rfl) T.g_broken_by T.F_broken_by.kp (kb_broken_by T) pass0 ha hk) (va_cons (ve_var (pv 6)) (va_cons (ve_var (pv 7)) va_nil (by rfl)) (by rfl)) (vk_cons (ve_var (pv 8)) (vk_cons (ve_var (pv 3)) vk_nil))) va_nil (by rfl))) (ve_var (pv 10)) (nomark _)) (vw_one (vt_cmp (op_neAll (hu64 hr)) ops_ne (ve_cb (fun ta ha => pe_callB (call_repr hr gd) (by rfl) T.b_repr (by decide +kernel) ha) cs_repr (va_cons (ve_tup (va_cons (ve_var (pv 6)) (va_cons (ve_var (pv 3)) va_nil (by rfl)) (by rfl))) va_nil (by rfl))) (ve_var (pv 9)) (nomark _))))) (vss_one (vs_ret ve_bl)) vss_nil))))
  (vss_one (vs_if (vt_cmp op_notN ops_notN (let ⟨_, hb⟩ := kp_broken_by_2_land T; ve_callD (fun ta tk ha hk => gp_callK (ok_broken_by T) (hr.mono (by omega)) gd (by rfl) T.g_broken_by T.F_broken_by.kp hb pass0 ha hk) (fun F H => drp_broken_by_2_land T F H) (va_cons (ve_var (pv 6)) (va_cons (ve_var (pv 7)) va_nil (by rfl)) (by rfl)) (vk_cons ve_str vk_nil)) ve_non (nomark _)) (vss_one (vs_ret ve_bl)) vss_nil))) vss_nil)))))))))
  (vss_one (vs_ret ve_bl)))) (by omega)
end
theorem loop_inv {g : TGt} {t : TVS} {E : VEnds} {I : VL.Env → Prop} {P : PyData → Prop}
    (hb : ∀ d ρ (N : VL.Env → Prop), P d → I ρ → (∀ ρ', I ρ' → N ρ') → g d ρ fun ρ' => t { E with nx := N, ct := N, bk := E.nx } ρ') (he : ∀ ρ, I ρ → E.nx ρ) :
    ∀ (ds : List PyData) (ρ : VL.Env), (∀ d ∈ ds, P d) → I ρ → vLoop g t E ds ρ
  | [], ρ, _, h => he ρ h
  | d :: ds, ρ, hp, h => hb d ρ _ (hp d (by simp)) h fun ρ' h' => loop_inv hb he ds ρ' (fun x hx => hp x (by simp [hx])) h'
theorem loop_cnt {g : TGt} {t : TVS} {E : VEnds} {I : Nat → VL.Env → Prop} {P : PyData → Prop} {T : Nat}
    (hb : ∀ i d ρ (N : VL.Env → Prop), i < T → P d → I i ρ → (∀ ρ', I (i + 1) ρ' → N ρ') → g d ρ fun ρ' => t { E with nx := N, ct := N, bk := E.nx } ρ') (he : ∀ ρ, I T ρ → E.nx ρ) :
    ∀ (ds : List PyData) (i : Nat) (ρ : VL.Env), i + ds.length = T → (∀ d ∈ ds, P d) → I i ρ → vLoop g t E ds ρ
  | [], i, ρ, hT, _, h => he ρ (by rw [← hT]; exact h)
  | d :: ds, i, ρ, hT, hp, h => by
    rw [List.length_cons] at hT
    exact hb i d ρ _ (by omega) (hp d (by simp)) h fun ρ' h' => loop_cnt hb he ds (i + 1) ρ' (by omega) (fun x hx => hp x (by simp [hx])) h'
theorem lp_cons {g : TGt} {t : TVS} {E : VEnds} {d : PyData} {ds : List PyData} {ρ : VL.Env} : vLoop g t E (d :: ds) ρ = g d ρ fun ρ' => t { E with nx := fun ρ'' => vLoop g t E ds ρ'', ct := fun ρ'' => vLoop g t E ds ρ'', bk := E.nx } ρ' := rfl
theorem lp_nil {g : TGt} {t : TVS} {E : VEnds} {ρ : VL.Env} : vLoop g t E [] ρ = E.nx ρ := rfl
theorem cl_cons {g : TGt} {c : TVb} {t : TV} {w : VL.Env} {d : PyData} {ds acc : List PyData} {Q : List PyData → Prop} : cLoop g c t w (d :: ds) acc Q = g d w fun ρ' => c ρ' fun b => if b = true then t ρ' fun s => ∃ z, datasIn [s] = some [z] ∧ acc.length < 100000 ∧ cLoop g c t w ds (acc ++ [z]) Q else cLoop g c t w ds acc Q := rfl
theorem cl_nil {g : TGt} {c : TVb} {t : TV} {w : VL.Env} {acc : List PyData} {Q : List PyData → Prop} : cLoop g c t w [] acc Q = Q acc := rfl
theorem m_rng1 {t : TVs} {ρ : VL.Env} {Q : List PyData → Prop} : vRng1 t ρ Q = t ρ fun ss => ∃ n : Int, ss = [.v (.int n)] ∧ n < 2 ^ 62 ∧ -(2 ^ 62) ≤ n ∧ Q ((List.range n.toNat).map fun (i : Nat) => PyData.int (0 + (i : Int))) := rfl
theorem m_isN {neg : Bool} {d : PyData} {Q : SV → Prop} : fIsN neg (.v d) (.v .none) Q = Q (.v (.bool (if neg then !isNoneD d else isNoneD d))) := by simp [fIsN, SV.asD]
local macro_rules | `(tactic| walk_at "wl") => `(tactic| (first | (walk_at "vl"; (try (simp only [m_lc, m_rng1, m_seqI, vVar, wipeV]; (try walk_at "vl")))) | (simp only [m_lc, m_rng1, m_seqI, vVar, wipeV]; (try walk_at "vl")) | skip))
local macro_rules | `(tactic| walk_at "wm") => `(tactic| (walk_at "wl"; (try (simp only [Bool.true_eq_false, if_false, if_true, Bool.not_true, Bool.not_false]; (try walk_at "wl")))))
theorem ixT_at {ds : List PyData} {k : Nat} {d : PyData} {Q : SV → Prop} (h : ds[k]? = some d) (q : Q (.v d)) : fIx (.v (.tuple ds)) (.v (.int (k : Int))) Q := ⟨_, rfl, .inl ⟨ds, d, rfl, atI_nat h, q⟩⟩
theorem at0 {a : PyData} {xs : List PyData} {R : PyData → Prop} (h : R a) : ∃ z, atI (a :: xs) 0 = some z ∧ R z := ⟨a, atI_nat (j := 0) rfl, h⟩
theorem at1 {a b : PyData} {xs : List PyData} {R : PyData → Prop} (h : R b) : ∃ z, atI (a :: b :: xs) 1 = some z ∧ R z := ⟨b, atI_nat (j := 1) rfl, h⟩
theorem at2 {a b c : PyData} {xs : List PyData} {R : PyData → Prop} (h : R c) : ∃ z, atI (a :: b :: c :: xs) 2 = some z ∧ R z := ⟨c, atI_nat (j := 2) rfl, h⟩
theorem at3 {a b c d : PyData} {xs : List PyData} {R : PyData → Prop} (h : R d) : ∃ z, atI (a :: b :: c :: d :: xs) 3 = some z ∧ R z := ⟨d, atI_nat (j := 3) rfl, h⟩
theorem at4 {a b c d e : PyData} {xs : List PyData} {R : PyData → Prop} (h : R e) : ∃ z, atI (a :: b :: c :: d :: e :: xs) 4 = some z ∧ R z := ⟨e, atI_nat (j := 4) rfl, h⟩
theorem items_tup {ds : List PyData} {R : List PyData → Prop} (h : R ds) : ∃ es, SV.items (.v (.tuple ds)) = some es ∧ R es := ⟨ds, rfl, h⟩
theorem items_own {ds : List PyData} {R : List PyData → Prop} (h : R ds) : ∃ es, SV.items (.own ds) = some es ∧ R es := ⟨ds, rfl, h⟩
theorem items_lst {ds : List PyData} {R : List PyData → Prop} (h : R ds) : ∃ es, SV.items (.v (.list ds)) = some es ∧ R es := ⟨ds, rfl, h⟩
theorem bb (b : Bool) : (b == b) = true := by cases b <;> rfl
theorem eqT {x : Str} {Q : Bool → Prop} (h : Q true) : Q (x == x) := by simpa using h
theorem fge_i {i j : Int} {Q : SV → Prop} (h : Q (.v (.bool (decide (j ≤ i))))) : fGeA (.v (.int i)) (.v (.int j)) Q := .inl ⟨i, j, rfl, rfl, h⟩
theorem cloop_ty {α : Type} {g : TGt} {c : TVb} {t : TV} {w : VL.Env} (m : α → PyData) (f : α → Option PyData) : ∀ {as : List α} {acc : List PyData} {Q : List PyData → Prop},
    (∀ a ∈ as, ∀ (K1 : PyData → Prop) (K2 : Prop), (∀ z, f a = some z → K1 z) → (f a = none → K2) → g (m a) w fun ρ' => c ρ' fun b => if b = true then t ρ' fun s => ∃ z, datasIn [s] = some [z] ∧ K1 z else K2) →
    acc.length + as.length ≤ 100000 → Q (acc ++ as.filterMap f) → cLoop g c t w (as.map m) acc Q
  | [], acc, Q, _, _, q => by rwa [show acc ++ [].filterMap f = acc from List.append_nil acc] at q
  | d :: ds, acc, Q, h, hl, q => by
    rw [List.length_cons] at hl
    refine h d (by simp) (fun z => acc.length < 100000 ∧ cLoop g c t w (ds.map m) (acc ++ [z]) Q) (cLoop g c t w (ds.map m) acc Q) (fun z e => ⟨by omega, ?_⟩) fun e => ?_
    · refine cloop_ty m f (fun d hd => h d (by simp [hd])) (by rw [List.length_append]; show acc.length + 1 + ds.length ≤ _; omega) ?_
      rw [List.filterMap_cons, e] at q
      rwa [List.append_assoc]
    · refine cloop_ty m f (fun d hd => h d (by simp [hd])) (by omega) ?_
      rwa [List.filterMap_cons, e] at q
/-- a comprehension without a test, by what it gives -/
theorem cloop_all {α : Type} {g : TGt} {t : TV} {w : VL.Env} (m : α → PyData) (f : α → PyData) {as : List α} {Q : List PyData → Prop}
    (h : ∀ a ∈ as, ∀ (K1 : PyData → Prop), K1 (f a) → g (m a) w fun ρ' => t ρ' fun s => ∃ z, datasIn [s] = some [z] ∧ K1 z) (hl : as.length ≤ 100000) (q : Q (as.map f)) : cLoop g (fun _ Q => Q true) t w (as.map m) [] Q := by
  refine cloop_ty m (fun a => some (f a)) (fun a ha K1 K2 k1 _ => ?_) (by simpa using hl) ?_
  · have := h a ha K1 (k1 _ rfl)
    simpa using this
  · rw [List.nil_append, show as.filterMap (fun a => some (f a)) = as.map f by rw [← List.filterMap_eq_map]; rfl]
    exact q
/-- a comprehension that leaves some out -/
theorem cloop_if {α : Type} {g : TGt} {c : TVb} {t : TV} {w : VL.Env} (m : α → PyData) (p : α → Bool) (f : α → PyData) {as : List α} {Q : List PyData → Prop}
    (h : ∀ a ∈ as, ∀ (K1 : PyData → Prop) (K2 : Prop), (p a = true → K1 (f a)) → (p a = false → K2) → g (m a) w fun ρ' => c ρ' fun b => if b = true then t ρ' fun s => ∃ z, datasIn [s] = some [z] ∧ K1 z else K2) (hl : as.length ≤ 100000) (q : Q ((as.filter p).map f)) : cLoop g c t w (as.map m) [] Q := by
  have fm : ∀ as : List α, as.filterMap (fun a => if p a = true then some (f a) else none) = (as.filter p).map f := by
    intro as
    induction as with
    | nil => rfl
    | cons a as ih => rw [List.filterMap_cons, List.filter_cons]; cases e : p a <;> simp [ih]
  refine cloop_ty m (fun a => if p a = true then some (f a) else none) (fun a ha K1 K2 k1 k2 => ?_) (by simpa using hl) (by rw [List.nil_append, fm]; exact q)
  exact h a ha K1 K2 (fun e => k1 _ (if_pos e)) fun e => k2 (if_neg (by simp [e]))
theorem all_bools {α : Type} {as : List α} {p : α → Bool} {s : SV} {Q : SV → Prop} (hs : s.asL = some (as.map fun a => PyData.bool (p a))) (h : Q (.v (.bool (as.all p)))) : fAll [s] Q := by
  refine ⟨s, as.map p, rfl, by rw [hs, List.map_map]; rfl, ?_⟩
  rw [List.all_map]
  exact h
/-! ### worths -/
inductive Vl
  | num (i : Int)
  | non
  | said (s : Str)
  | link (t : Str) (i : Int)
  deriving DecidableEq
def Vl.d : Vl → PyData
  | .num i => .int i
  | .non => .none
  | .said s => .tuple [.str "said", .str s]
  | .link t i => .tuple [.str "link", .str t, .int i]
def IsW (t : Str) : Prop := 1 ≤ t.length ∧ t.length ≤ 8 ∧ ∀ c ∈ t.cps.toList, c ∈ (Str.ofString "abcdefghijklmnopqrstuvwxyz").cps.toList
def IsSaid (s : Str) : Prop := s.length ≤ 12 ∧ ∀ c ∈ s.cps.toList, 32 ≤ c ∧ c ≤ 126 ∧ c ≠ 37
def OV : Vl → Prop
  | .num _ => True
  | .non => True
  | .said s => IsSaid s
  | .link t i => IsW t ∧ 0 ≤ i
instance (t : Str) : Decidable (IsW t) := by unfold IsW; infer_instance
instance (t : Str) : Decidable (IsSaid t) := by unfold IsSaid; infer_instance
theorem az_lt : ∀ c ∈ (Str.ofString "abcdefghijklmnopqrstuvwxyz").cps.toList, 97 ≤ c ∧ c ≤ 122 := by decide +kernel
theorem IsW.strG {t : Str} (h : IsW t) : strG t = true := by
  unfold VL.strG
  rw [List.all_eq_true]
  intro c hc
  have := az_lt c (h.2.2 c hc)
  rw [decide_eq_true_eq]
  omega
theorem IsSaid.strG {t : Str} (h : IsSaid t) : strG t = true := by
  unfold VL.strG
  rw [List.all_eq_true]
  intro c hc
  have := h.2 c hc
  rw [decide_eq_true_eq]
  omega
theorem lay_str {t : Str} (h : strG t = true) : (PyData.str t).canLay0 = true := lay_of (b := 64) _ h
theorem OV.lay {v : Vl} (h : OV v) : v.d.canLay0 = true ∧ v.d.depth ≤ 1 ∧ SeqAt.shaped v.d = true := by
  have key : v.d.canLay0 = true ∧ v.d.depth ≤ 1 := by
    cases v with
    | num i => exact ⟨rfl, by simp [Vl.d, PyData.depth]⟩
    | non => exact ⟨rfl, by simp [Vl.d, PyData.depth]⟩
    | said s => exact ⟨by simp only [Vl.d, PyData.canLay0, PyData.canLayAll0, Bool.and_true]; have := lay_str (IsSaid.strG h); simp only [PyData.canLay0] at this; rw [this]; decide +kernel, by simp [Vl.d, PyData.depth, PyData.depthAll]⟩
    | link t i => exact ⟨by simp only [Vl.d, PyData.canLay0, PyData.canLayAll0, Bool.and_true]; have := lay_str (IsW.strG h.1); simp only [PyData.canLay0] at this; rw [this]; decide +kernel, by simp [Vl.d, PyData.depth, PyData.depthAll]⟩
  refine ⟨key.1, key.2, ?_⟩
  unfold SeqAt.shaped
  rw [key.1, decide_eq_true (Nat.le_trans key.2 (by decide))]
  rfl
theorem Vl.inj {v w : Vl} (h : v.d = w.d) : v = w := by
  cases v <;> cases w <;> simp [Vl.d] at h <;> simp [h]
/-! ### what things are -/
def isN : Vl → Bool
  | .num _ => true
  | _ => false
def isL : Vl → Bool
  | .link _ _ => true
  | _ => false
def isS : Vl → Bool
  | .said _ => true
  | _ => false
theorem sp_isw {v : Vl} {Q : SV → Prop} (h : Q (.v (.bool (isN v)))) : m_is_whole [.v v.d] Q := by
  unfold m_is_whole t_is_whole
  cases v <;> simp only [Vl.d] <;> walk_at "wl" <;> simpa [isN] using h
theorem sp_is_number {n : Int} {Q : SV → Prop} (h : Q (.v (.bool (decide (0 ≤ n))))) : m_is_number [.v (.int n)] Q := by
  unfold m_is_number t_is_number
  walk_at "wl"
  refine sp_isw (v := .num n) ?_
  walk_at "wl"
  simp only [isN]
  rw [if_pos trivial]
  exact h
theorem sp_is_word {t : Str} (ht : IsW t) {Q : SV → Prop} (h : Q (.v (.bool true))) : m_is_word [.v (.str t)] Q := by
  unfold m_is_word t_is_word
  walk_at "wl"
  rw [if_neg (by decide)]
  obtain ⟨l1, l2, hc⟩ := ht
  refine .inr ⟨_, rfl, by show t.length ≤ 16777216; omega, ?_⟩
  walk_at "wl"
  rw [if_pos (by omega), if_neg (by omega)]
  refine ⟨_, rfl, ?_⟩
  refine cloop_all (fun c => PyData.str ⟨#[c]⟩) (fun _ => .bool true) (fun c hm K1 k1 => ?_) (by show t.length ≤ 100000; omega) ?_
  · walk_at "wl"
    refine .inl ⟨c, _, rfl, rfl, ?_⟩
    rw [if_neg (by decide), decide_eq_true (hc c hm)]
    exact ⟨_, rfl, k1⟩
  · refine all_bools (as := t.cps.toList) (p := fun _ => true) rfl ?_
    rw [show (List.all _ fun _ => true) = true from List.all_eq_true.mpr fun _ _ => rfl]
    exact ⟨_, rfl, h⟩
theorem sp_is_said_text {s : Str} (hs : IsSaid s) {Q : SV → Prop} (h : Q (.v (.bool true))) : m_is_said_text [.v (.str s)] Q := by
  rw [e_is_said_text]
  unfold b_is_said_text_2 b_is_said_text_1
  walk_at "wl"
  rw [if_neg (by decide)]
  have hl := hs.1
  refine .inr ⟨_, rfl, by show s.length ≤ 16777216; omega, ?_⟩
  walk_at "wl"
  rw [if_neg (by omega)]
  refine ⟨_, rfl, ?_⟩
  refine cloop_all (fun c => PyData.str ⟨#[c]⟩) (fun c => .int (c : Nat)) (fun c hm K1 k1 => ?_) (by show s.length ≤ 100000; omega) ?_
  · walk_at "wl"
    exact k1
  · unfold b_is_said_text_0
    walk_at "wl"
    refine items_lst ?_
    refine cloop_all (fun c : Nat => PyData.int (c : Nat)) (fun _ => .bool true) (fun c hm K1 k1 => ?_) (by show s.length ≤ 100000; omega) ?_
    · obtain ⟨h1, h2, h3⟩ := hs.2 c hm
      walk_at "wl"
      rw [if_pos (by omega), if_pos (by omega)]
      rw [show ((c : Int) == 37) = false from beq_false_of_ne (by omega)]
      exact k1
    · refine all_bools (as := s.cps.toList) (p := fun _ => true) rfl ?_
      rw [show (List.all _ fun _ => true) = true from List.all_eq_true.mpr fun _ _ => rfl]
      exact ⟨_, rfl, h⟩
theorem sp_is_tuple_of {ds : List PyData} {n : Int} {Q : SV → Prop} (h : Q (.v (.bool (decide ((ds.length : Int) = n))))) : m_is_tuple_of [.v (.tuple ds), .v (.int n)] Q := by
  unfold m_is_tuple_of t_is_tuple_of
  walk_at "wl"
  rw [show ((ds.length : Int) == n) = decide ((ds.length : Int) = n) from rfl]
  exact h
theorem sp_is_tuple_no {d : PyData} {n : Int} (nt : isT "tuple" d = false) (nd : d.hasDict = false) {Q : SV → Prop} (h : Q (.v (.bool false))) : m_is_tuple_of [.v d, .v (.int n)] Q := by
  unfold m_is_tuple_of t_is_tuple_of
  walk_at "wl"
  rw [nt]
  exact h
theorem sp_is_said {v : Vl} (g : OV v) {Q : SV → Prop} (h : Q (.v (.bool (isS v)))) : m_is_said [.v v.d] Q := by
  unfold m_is_said t_is_said
  walk_at "wl"
  cases v with
  | num i => exact sp_is_tuple_no rfl rfl (by walk_at "wl"; exact h)
  | non => exact sp_is_tuple_no rfl rfl (by walk_at "wl"; exact h)
  | said s =>
    refine sp_is_tuple_of (ds := [.str "said", .str s]) (n := 2) ?_
    simp only [Vl.d]
    walk_at "wl"
    rw [if_pos (by decide)]
    refine at0 ?_
    walk_at "wl"
    try rw [if_pos (by decide)]
    refine at1 ?_
    refine sp_is_said_text g ?_
    exact ⟨_, rfl, h⟩
  | link t n =>
    refine sp_is_tuple_of (ds := [.str "link", .str t, .int n]) (n := 2) ?_
    walk_at "wl"
    rw [if_neg (by decide)]
    exact h
theorem sp_is_link {v : Vl} (g : OV v) {Q : SV → Prop} (h : Q (.v (.bool (isL v)))) : m_is_link [.v v.d] Q := by
  unfold m_is_link t_is_link
  walk_at "wl"
  cases v with
  | num i => exact sp_is_tuple_no rfl rfl (by walk_at "wl"; exact h)
  | non => exact sp_is_tuple_no rfl rfl (by walk_at "wl"; exact h)
  | said s =>
    refine sp_is_tuple_of (ds := [.str "said", .str s]) (n := 3) ?_
    walk_at "wl"
    rw [if_neg (by decide)]
    exact h
  | link t n =>
    refine sp_is_tuple_of (ds := [.str "link", .str t, .int n]) (n := 3) ?_
    simp only [Vl.d]
    walk_at "wl"
    rw [if_pos (by decide)]
    refine at0 ?_
    walk_at "wl"
    try rw [if_pos (by decide)]
    refine at1 ?_
    refine sp_is_word g.1 ?_
    refine ⟨_, rfl, (if_pos rfl).mpr ?_⟩
    refine at2 ?_
    refine sp_is_number ?_
    rw [decide_eq_true g.2]
    exact ⟨_, rfl, h⟩
theorem sp_is_value {v : Vl} (g : OV v) {Q : SV → Prop} (h : Q (.v (.bool true))) : m_is_value [.v v.d] Q := by
  unfold m_is_value t_is_value
  walk_at "wl"
  rw [m_isN]
  refine ⟨_, rfl, ?_⟩
  cases v with
  | non => exact (if_pos (by rfl)).mpr h
  | num i =>
    refine (if_neg (by simp [isNoneD, Vl.d])).mpr ?_
    refine sp_isw ?_
    walk_at "wl"
    exact (if_pos (by rfl)).mpr h
  | said s =>
    refine (if_neg (by simp [isNoneD, Vl.d])).mpr ?_
    refine sp_isw ?_
    walk_at "wl"
    refine (if_neg (show ¬ isN (Vl.said s) = true from Bool.false_ne_true)).mpr ?_
    refine sp_is_said g ?_
    walk_at "wl"
    exact (if_pos (by rfl)).mpr h
  | link t n =>
    refine (if_neg (by simp [isNoneD, Vl.d])).mpr ?_
    refine sp_isw ?_
    walk_at "wl"
    refine (if_neg (show ¬ isN (Vl.link t n) = true from Bool.false_ne_true)).mpr ?_
    refine sp_is_said g ?_
    walk_at "wl"
    refine (if_neg (show ¬ isS (Vl.link t n) = true from Bool.false_ne_true)).mpr ?_
    refine sp_is_link g ?_
    exact ⟨_, rfl, h⟩
def wsD (ws : List Vl) : PyData := .tuple (ws.map Vl.d)
theorem sp_are_worths {ws : List Vl} (g : ∀ w ∈ ws, OV w) (hl : ws.length ≤ 100000) {Q : SV → Prop} (h : Q (.v (.bool true))) : m_are_worths [.v (wsD ws)] Q := by
  unfold m_are_worths t_are_worths wsD
  walk_at "wl"
  refine items_tup ?_
  refine cloop_all Vl.d (fun _ => .bool true) (fun w hw K1 k1 => ?_) hl ?_
  · walk_at "wl"
    refine sp_is_value (g w hw) ?_
    exact ⟨_, rfl, k1⟩
  · refine all_bools (as := ws) (p := fun _ => true) rfl ?_
    rw [show (List.all _ fun _ => true) = true from List.all_eq_true.mpr fun _ _ => rfl]
    exact ⟨_, rfl, h⟩
/-! ### conds -/
structure Cd where
  k : Nat
  sg : Str
  v : Vl
def Cd.d (c : Cd) : PyData := .tuple [.int c.k, .str c.sg, c.v.d]
structure GC (c : Cd) : Prop where
  sg : c.sg = "=" ∨ c.sg = "<" ∨ c.sg = ">"
  v : OV c.v
def condsD (cs : List Cd) : PyData := .tuple (cs.map Cd.d)
theorem lay3 : PyData.canLayAll0 [.str "=", .str "<", .str ">"] = true := by decide +kernel
theorem sp_is_cond {c : Cd} (g : GC c) {Q : SV → Prop} (h : Q (.v (.bool true))) : m_is_cond [.v c.d] Q := by
  unfold m_is_cond t_is_cond
  walk_at "wl"
  refine sp_is_tuple_of (ds := [.int c.k, .str c.sg, c.v.d]) (n := 3) ?_
  unfold Cd.d
  walk_at "wl"
  rw [if_pos (by decide)]
  refine at0 ?_
  refine sp_is_number ?_
  rw [decide_eq_true (Int.natCast_nonneg _)]
  refine ⟨_, rfl, (if_pos rfl).mpr ?_⟩
  refine at1 ?_
  refine .inr ⟨.str c.sg, _, rfl, rfl, by rcases g.sg with e | e | e <;> rw [e] <;> decide +kernel, by simp [PyData.depth], lay3, ?_⟩
  have e : [PyData.str "=", .str "<", .str ">"].any (PyData.eqv · (.str c.sg)) = true := by rcases g.sg with e | e | e <;> rw [e] <;> decide +kernel
  rw [e, if_neg (by decide)]
  refine ⟨_, rfl, (if_pos rfl).mpr ?_⟩
  refine at2 ?_
  refine sp_is_value g.v ?_
  exact ⟨_, rfl, h⟩
theorem sp_are_conds {cs : List Cd} (g : ∀ c ∈ cs, GC c) (hl : cs.length ≤ 100000) {Q : SV → Prop} (h : Q (.v (.bool true))) : m_are_conds [.v (condsD cs)] Q := by
  unfold m_are_conds t_are_conds condsD
  walk_at "wl"
  refine items_tup ?_
  refine cloop_all Cd.d (fun _ => .bool true) (fun c hc K1 k1 => ?_) hl ?_
  · walk_at "wl"
    refine sp_is_cond (g c hc) ?_
    exact ⟨_, rfl, k1⟩
  · refine all_bools (as := cs) (p := fun _ => true) rfl ?_
    rw [show (List.all _ fun _ => true) = true from List.all_eq_true.mpr fun _ _ => rfl]
    exact ⟨_, rfl, h⟩
/-! ### the same -/
theorem same_str {n : Nat} {x y : Str} {Q : SV → Prop} (h : Q (.v (.bool (x == y)))) : m_same (n + 1) [.v (.str x), .v (.str y)] Q := by
  rw [e_same]
  unfold b_same_1
  walk_at "wl"
  simp only [Bool.or_self, Bool.false_eq_true, if_false]
  unfold b_same_0
  walk_at "wl"
  rw [if_pos (bb _)]
  exact h
theorem same_int {n : Nat} {x y : Int} {Q : SV → Prop} (h : Q (.v (.bool (x == y)))) : m_same (n + 1) [.v (.int x), .v (.int y)] Q := by
  rw [e_same]
  unfold b_same_1
  walk_at "wl"
  simp only [Bool.or_self, Bool.false_eq_true, if_false]
  unfold b_same_0
  walk_at "wl"
  rw [if_pos (bb _)]
  exact h
theorem num_dec (i j : Int) : (i == j) = decide (Vl.num i = Vl.num j) := by
  by_cases h : i = j
  · subst h; simp
  · simp [h]
theorem same_sc {n : Nat} {v w : Vl} {Q : SV → Prop} (ns : (isT "tuple" v.d && isT "tuple" w.d) = false) (hv : OV v) (hw : OV w) (h : Q (.v (.bool (decide (v = w))))) : m_same (n + 1) [.v v.d, .v w.d] Q := by
  rw [e_same]
  unfold b_same_1
  have sv := hv.lay.2.2
  have sw := hw.lay.2.2
  cases v <;> cases w
  all_goals simp only [Vl.d] at sv sw
  all_goals try (cases ns; done)
  all_goals
    simp only [Vl.d]
    walk_at "vl"
    simp only [Bool.or_self, Bool.false_eq_true, if_false, Bool.or_true, Bool.true_or, if_true]
    unfold b_same_0
    walk_at "vl"
    rw [if_pos (by rfl)]
  · rw [show (_ == _) = _ from num_dec _ _]
    exact h
  all_goals exact ⟨_, _, rfl, rfl, sv, sw, _, rfl, h⟩
theorem are_two {n : Nat} {a : Str} {s t : Str} {Q : SV → Prop} (h : Q (.v (.bool (s == t)))) : m_are_same (m_same (n + 1)) [.v (.tuple [.str a, .str s]), .v (.tuple [.str a, .str t])] Q := by
  unfold m_are_same t_are_same
  walk_at "wl"
  rw [if_pos (by decide)]
  refine ⟨_, _, .inl rfl, ?_⟩
  simp only [zipD, List.zip_cons_cons, List.zip_nil_right, List.map_cons, List.map_nil, cl_cons, cl_nil, wipeV]
  walk_at "wl"
  refine same_str (n := n) ?_
  walk_at "wl"
  refine same_str (n := n) ?_
  walk_at "wl"
  refine ⟨_, [_, _], rfl, rfl, _, rfl, ?_⟩
  simpa using h
theorem are_three {n : Nat} {a : Str} {s t : Str} {i j : Int} {Q : SV → Prop} (h : Q (.v (.bool (s == t && i == j)))) : m_are_same (m_same (n + 1)) [.v (.tuple [.str a, .str s, .int i]), .v (.tuple [.str a, .str t, .int j])] Q := by
  unfold m_are_same t_are_same
  walk_at "wl"
  rw [if_pos (by decide)]
  refine ⟨_, _, .inl rfl, ?_⟩
  simp only [zipD, List.zip_cons_cons, List.zip_nil_right, List.map_cons, List.map_nil, cl_cons, cl_nil, wipeV]
  walk_at "wl"
  refine same_str (n := n) ?_
  walk_at "wl"
  refine same_str (n := n) ?_
  walk_at "wl"
  refine same_int (n := n) ?_
  walk_at "wl"
  refine ⟨_, [_, _, _], rfl, rfl, _, rfl, ?_⟩
  simpa using h
theorem are_less {n : Nat} {a b : Str} {s t : Str} {j : Int} {Q : SV → Prop} (h : Q (.v (.bool false))) : m_are_same (m_same (n + 1)) [.v (.tuple [.str a, .str s]), .v (.tuple [.str b, .str t, .int j])] Q := by
  unfold m_are_same t_are_same
  walk_at "wl"
  rw [if_neg (by decide)]
  exact h
theorem are_more {n : Nat} {a b : Str} {s t : Str} {j : Int} {Q : SV → Prop} (h : Q (.v (.bool false))) : m_are_same (m_same (n + 1)) [.v (.tuple [.str b, .str t, .int j]), .v (.tuple [.str a, .str s])] Q := by
  unfold m_are_same t_are_same
  walk_at "wl"
  rw [if_neg (by decide)]
  exact h
theorem said_dec (x y : Str) : (x == y) = decide (Vl.said x = Vl.said y) := by
  by_cases h : x = y
  · subst h; simp
  · simp [h]
theorem link_dec (x y : Str) (i j : Int) : (x == y && i == j) = decide (Vl.link x i = Vl.link y j) := by
  by_cases h : x = y <;> by_cases h2 : i = j <;> simp [h, h2]
theorem sp_same {v w : Vl} {Q : SV → Prop} (hv : OV v) (hw : OV w) (h : Q (.v (.bool (decide (v = w))))) : m_same 12 [.v v.d, .v w.d] Q := by
  by_cases ns : (isT "tuple" v.d && isT "tuple" w.d) = false
  · exact same_sc ns hv hw h
  · rw [e_same]
    unfold b_same_1
    cases v <;> cases w
    all_goals first
      | exact absurd (show _ = false from rfl) ns
      | (simp only [Vl.d]
         walk_at "vl"
         simp only [Bool.or_self, Bool.false_eq_true, if_false, Bool.or_true, Bool.true_or, if_true, beq_self_eq_true])
    · refine are_two (n := 10) ?_
      walk_at "wl"
      rw [said_dec]
      exact h
    · refine are_less (n := 10) ?_
      walk_at "wl"
      exact h
    · refine are_more (n := 10) ?_
      walk_at "wl"
      exact h
    · refine are_three (n := 10) ?_
      walk_at "wl"
      rw [link_dec]
      exact h
def metW (sg : Str) (w v : Vl) : Bool :=
  if sg = "=" then decide (w = v) else match w, v with
    | .num i, .num j => if sg = "<" then decide (i < j) else decide (j < i)
    | _, _ => false
def metC (ws : List Vl) (c : Cd) : Bool := match ws[c.k]? with
  | none => false
  | some w => metW c.sg w c.v
def rowD (i : Int) (ld : Str) (bn : Int) (ws : List Vl) : PyData := .tuple [.int i, .str ld, .int bn, .tuple (ws.map Vl.d)]
theorem atI_map {ws : List Vl} {k : Nat} {v : Vl} (h : ws[k]? = some v) : atI (ws.map Vl.d) (k : Int) = some v.d :=
  atI_nat (by rw [List.getElem?_map, h]; rfl)
theorem metW_nw {sg : Str} {w v : Vl} (h : sg ≠ "=") (n : isN w = false) : metW sg w v = false := by
  unfold metW
  rw [if_neg h]
  cases w <;> first | rfl | cases n
theorem metW_nv {sg : Str} {w v : Vl} (h : sg ≠ "=") (n : isN v = false) : metW sg w v = false := by
  unfold metW
  rw [if_neg h]
  cases v <;> first | cases w <;> rfl | cases n
theorem metW_eq {w v : Vl} : metW "=" w v = decide (w = v) := by unfold metW; rw [if_pos rfl]
theorem metW_lt {i j : Int} : metW "<" (.num i) (.num j) = decide (i < j) := by unfold metW; rw [if_neg (by decide)]; exact if_pos rfl
theorem metW_gt {i j : Int} : metW ">" (.num i) (.num j) = decide (j < i) := by unfold metW; rw [if_neg (by decide)]; exact if_neg (by decide)
theorem isN_t {w : Vl} (h : ¬ isN w = false) : ∃ i, w = .num i := by
  cases w <;> first | exact ⟨_, rfl⟩ | exact absurd rfl h
theorem sp_meets_cond {i bn : Int} {ld : Str} {ws : List Vl} {c : Cd} {Q : SV → Prop} (hw : ∀ w ∈ ws, OV w) (hc : GC c) (h : Q (.v (.bool (metC ws c)))) : m_meets_cond [.v (rowD i ld bn ws), .v c.d] Q := by
  unfold m_meets_cond t_meets_cond rowD Cd.d
  walk_at "wl"
  refine ⟨_, rfl, ?_⟩
  walk_at "wl"
  rw [List.length_map]
  by_cases hk : ws.length ≤ c.k
  · rw [if_pos (by omega)]
    unfold metC at h
    rw [List.getElem?_eq_none hk] at h
    exact h
  rw [if_neg (by omega)]
  obtain ⟨w, ew⟩ : ∃ w, ws[c.k]? = some w := ⟨_, List.getElem?_eq_getElem (by omega)⟩
  have gw : OV w := hw w (List.mem_of_getElem? ew)
  have ea := atI_map ew
  unfold metC at h
  rw [ew] at h
  dsimp only at h
  rcases hc.sg with e | e | e
  · rw [e] at h ⊢
    rw [if_pos (by decide)]
    refine ⟨_, ea, sp_same gw hc.v ?_⟩
    walk_at "wl"
    rwa [metW_eq] at h
  all_goals
    rw [e] at h ⊢
    rw [if_neg (by decide)]
    refine ⟨_, ea, sp_isw ?_⟩
    walk_at "wl"
    split
    · rename_i n
      rwa [metW_nw (by decide) n] at h
    refine sp_isw ?_
    walk_at "wl"
    split
    · rename_i n
      rwa [metW_nv (by decide) n] at h
    rename_i n1 n2
    obtain ⟨a, rfl⟩ := isN_t n1
    obtain ⟨b, eb⟩ := isN_t n2
    rw [eb] at h ⊢
  · rw [metW_lt] at h
    rw [if_pos (by decide)]
    exact ⟨_, ea, _, rfl, h⟩
  · rw [metW_gt] at h
    rw [if_neg (by decide)]
    refine ⟨_, ea, ?_⟩
    simp only [Vl.d, m_fGt]
    exact ⟨_, rfl, h⟩
theorem sp_meets {i bn : Int} {ld : Str} {ws : List Vl} {cs : List Cd} {Q : SV → Prop} (hw : ∀ w ∈ ws, OV w) (hc : ∀ c ∈ cs, GC c) (hl : cs.length ≤ 1000) (h : Q (.v (.bool (cs.all (metC ws))))) : m_meets [.v (rowD i ld bn ws), .v (condsD cs)] Q := by
  unfold m_meets t_meets condsD
  walk_at "wl"
  refine items_tup ?_
  refine cloop_all Cd.d (fun c => .bool (metC ws c)) (fun c hm K1 k1 => ?_) (by omega) ?_
  · walk_at "wl"
    refine sp_meets_cond hw (hc c hm) ?_
    exact ⟨_, rfl, k1⟩
  · exact all_bools (as := cs) (p := metC ws) rfl ⟨_, rfl, h⟩
/-! ### rows, tables, stores -/
structure Rw where
  i : Int
  ld : Str
  bn : Int
  ws : List Vl
def Rw.d (r : Rw) : PyData := rowD r.i r.ld r.bn r.ws
theorem Rw.e (r : Rw) : r.d = .tuple [.int r.i, .str r.ld, .int r.bn, .tuple (r.ws.map Vl.d)] := rfl
structure Tb where
  nm : Str
  nx : Int
  rows : List Rw
  ix : List Int
def Tb.d (t : Tb) : PyData := .tuple [.str t.nm, .int t.nx, .tuple (t.rows.map Rw.d), .tuple (t.ix.map .int)]
theorem Tb.e (t : Tb) : t.d = .tuple [.str t.nm, .int t.nx, .tuple (t.rows.map Rw.d), .tuple (t.ix.map .int)] := rfl
def storeD (ts : List Tb) : PyData := .tuple (ts.map Tb.d)
abbrev Rising (rs : List Rw) : Prop := rs.Pairwise fun a b => a.i < b.i
def ltS (a b : Str) : Prop := a.cps.toList < b.cps.toList
instance (a b : Str) : Decidable (ltS a b) := by unfold ltS; infer_instance
structure GRw (r : Rw) : Prop where
  i0 : 0 ≤ r.i
  ld : IsW r.ld
  b0 : 0 ≤ r.bn
  ws : ∀ w ∈ r.ws, OV w
  wn : r.ws.length ≤ 1000
structure GTb (N : Nat) (t : Tb) : Prop where
  nm : IsW t.nm
  n0 : 0 ≤ t.nx
  gr : ∀ r ∈ t.rows, GRw r
  ri : Rising t.rows
  lt : ∀ r ∈ t.rows, r.i < t.nx
  rl : t.rows.length ≤ N
  ix : ∀ j ∈ t.ix, 0 ≤ j
  xr : t.ix.Pairwise (· < ·)
  il : t.ix.length ≤ N
structure GSt (N : Nat) (ts : List Tb) : Prop where
  gt : ∀ t ∈ ts, GTb N t
  so : ts.Pairwise fun a b => ltS a.nm b.nm
  tl : ts.length ≤ N
theorem ltS_irr (a : Str) : ¬ ltS a a := List.lt_irrefl _
theorem ltS_trans {a b c : Str} (h : ltS a b) (h2 : ltS b c) : ltS a c := List.lt_trans h h2
theorem ltS_asym {a b : Str} (h : ltS a b) : ¬ ltS b a := fun h2 => ltS_irr a (ltS_trans h h2)
theorem str_eq {a b : Str} (h : a.cps.toList = b.cps.toList) : a = b := by
  cases a; cases b
  congr 1
  exact Array.toList_inj.mp h
theorem ltS_tri {a b : Str} (h : a ≠ b) : ltS a b ∨ ltS b a := by
  by_cases h1 : ltS a b
  · exact .inl h1
  · by_cases h2 : ltS b a
    · exact .inr h2
    · exact absurd (str_eq (List.le_antisymm (List.not_lt.mp h2) (List.not_lt.mp h1))) h
theorem GSt.nd {N : Nat} {ts : List Tb} (g : GSt N ts) : (ts.map Tb.nm).Nodup := by
  unfold List.Nodup
  rw [List.pairwise_map]
  exact g.so.imp fun {a b} h e => by
    rw [e] at h
    exact ltS_irr _ h
def voidT (nm : Str) : Tb := ⟨nm, 0, [], []⟩
def tab : List Tb → Str → Tb
  | [], nm => voidT nm
  | t :: ts, nm => if t.nm = nm then t else tab ts nm
def has : List Tb → Str → Bool
  | [], _ => false
  | t :: ts, nm => decide (t.nm = nm) || has ts nm
theorem tab_nm {ts : List Tb} {nm : Str} : (tab ts nm).nm = nm := by
  induction ts with
  | nil => rfl
  | cons t ts ih => unfold tab; split <;> assumption
theorem tab_mem {ts : List Tb} {nm : Str} (h : has ts nm = true) : tab ts nm ∈ ts := by
  induction ts with
  | nil => cases h
  | cons t ts ih =>
    unfold tab
    unfold has at h
    by_cases e : t.nm = nm
    · rw [if_pos e]; simp
    · rw [if_neg e]
      rw [decide_eq_false e, Bool.false_or] at h
      exact List.mem_cons_of_mem _ (ih h)
theorem tab_void {ts : List Tb} {nm : Str} (h : has ts nm = false) : tab ts nm = voidT nm := by
  induction ts with
  | nil => rfl
  | cons t ts ih =>
    unfold tab
    unfold has at h
    rw [Bool.or_eq_false_iff] at h
    rw [if_neg (of_decide_eq_false h.1)]
    exact ih h.2
theorem has_mem {ts : List Tb} {nm : Str} : has ts nm = true ↔ ∃ t ∈ ts, t.nm = nm := by
  induction ts with
  | nil => simp [has]
  | cons t ts ih => simp [has, ih]
theorem tab_g {N : Nat} {ts : List Tb} {nm : Str} (g : GSt N ts) (w : IsW nm) : GTb N (tab ts nm) := by
  cases h : has ts nm with
  | true => exact g.gt _ (tab_mem h)
  | false =>
    rw [tab_void h]
    exact ⟨w, Int.le_refl _, by simp [voidT], by simp [voidT], by simp [voidT], by simp [voidT], by simp [voidT], by simp [voidT], by simp [voidT]⟩
theorem sp_table_in {ts : List Tb} {nm : Str} {Q : SV → Prop} (h : Q (.v (tab ts nm).d)) : m_table_in [.v (storeD ts), .v (.str nm)] Q := by
  rw [e_table_in]
  unfold b_table_in_1
  simp only [storeD]
  walk_at "wl"
  refine items_tup ?_
  have lp : ∀ (us : List Tb) (x2 : SV), Q (.v (tab us nm).d) →
      vLoop (vgName 2) (vIfS (vTest (vBin (fEq false) (vBin fIx (vVar 2) (vC (.int 0))) (vVar 1))) (vRet (vVar 2)) vNext) { nx := b_table_in_0 { nx := fun x => Q (.v .none), rt := Q, bk := fun x => False, ct := fun x => False }, rt := Q, bk := fun x => False, ct := fun x => False } (us.map Tb.d) [.v (.tuple (ts.map Tb.d)), .v (.str nm), x2] := by
    intro us
    induction us with
    | nil =>
      intro x2 hh
      rw [List.map_nil, lp_nil]
      unfold b_table_in_0
      walk_at "wl"
      exact hh
    | cons t us ih =>
      intro x2 hh
      rw [List.map_cons, lp_cons]
      unfold tab at hh
      rw [Tb.e]
      walk_at "wl"
      refine at0 ?_
      walk_at "wl"
      split
      · rename_i e
        have e : t.nm = nm := by simpa using e
        rw [if_pos e] at hh
        exact hh
      · rename_i e
        have e : ¬ t.nm = nm := by simpa using e
        rw [if_neg e] at hh
        exact ih _ hh
  exact lp ts _ h
theorem sp_rows_of {ts : List Tb} {nm : Str} {Q : SV → Prop} (h : Q (.v (.tuple ((tab ts nm).rows.map Rw.d)))) : m_rows_of [.v (storeD ts), .v (.str nm)] Q := by
  unfold m_rows_of t_rows_of
  walk_at "wl"
  refine sp_table_in ?_
  rw [Tb.e]
  walk_at "wl"
  refine at2 ?_
  exact h
theorem sp_tables_of {ts : List Tb} (hl : ts.length ≤ 1000) {Q : SV → Prop} (h : Q (.v (.tuple (ts.map fun t => .str t.nm)))) : m_tables_of [.v (storeD ts)] Q := by
  unfold m_tables_of t_tables_of storeD
  walk_at "wl"
  refine items_tup ?_
  refine cloop_all Tb.d (fun t => .str t.nm) (fun t hm K1 k1 => ?_) (by omega) ?_
  · walk_at "wl"
    rw [Tb.e]
    walk_at "wl"
    refine at0 ?_
    walk_at "wl"
    exact k1
  · walk_at "wl"
    exact h
theorem lay_names {ts : List Tb} (h : ∀ t ∈ ts, strG t.nm = true) : PyData.canLayAll0 (ts.map fun t => PyData.str t.nm) = true := by
  induction ts with
  | nil => rfl
  | cons t ts ih =>
    rw [List.map_cons]
    unfold PyData.canLayAll0
    rw [lay_str (h t (by simp)), ih fun u hu => h u (by simp [hu])]
    rfl
theorem any_names {ts : List Tb} {nm : Str} : (ts.map fun t => PyData.str t.nm).any (PyData.eqv · (.str nm)) = has ts nm := by
  induction ts with
  | nil => rfl
  | cons t ts ih =>
    rw [List.map_cons, List.any_cons, ih]
    rfl
theorem sp_has_table {N : Nat} {ts : List Tb} (g : GSt N ts) (hN : N ≤ 60) {nm : Str} (w : IsW nm) {Q : SV → Prop} (h : Q (.v (.bool (has ts nm)))) : m_has_table [.v (storeD ts), .v (.str nm)] Q := by
  unfold m_has_table t_has_table
  have := g.tl
  walk_at "wl"
  refine sp_tables_of (by omega) ?_
  refine .inr ⟨.str nm, _, rfl, rfl, lay_str w.strG, by simp [PyData.depth], lay_names fun t ht => (g.gt t ht).nm.strG, ?_⟩
  rw [any_names]
  exact ⟨_, rfl, h⟩
def lk (ts : List Tb) (t : Str) (n : Int) : Option Rw := (tab ts t).rows.find? fun r => decide (r.i = n)
def rwD : Option Rw → PyData
  | none => .none
  | some r => r.d
theorem sp_row_of {ts : List Tb} {t : Str} {n : Int} (n0 : 0 ≤ n) {Q : SV → Prop} (h : Q (.v (rwD (lk ts t n)))) : m_row_of [.v (storeD ts), .v (.str t), .v (.int n)] Q := by
  rw [e_row_of]
  unfold b_row_of_2
  walk_at "wl"
  refine sp_is_number ?_
  walk_at "wl"
  rw [if_neg (by omega)]
  unfold b_row_of_1
  walk_at "wl"
  refine sp_rows_of ?_
  walk_at "wl"
  refine items_tup ?_
  unfold lk at h
  generalize (tab ts t).rows = rs at h ⊢
  have lp : ∀ (rs : List Rw) (x3 : SV), Q (.v (rwD (rs.find? fun r => decide (r.i = n)))) →
      vLoop (vgName 3) (vIfS (vTest (vBin (fEq false) (vBin fIx (vVar 3) (vC (.int 0))) (vVar 2))) (vRet (vVar 3)) vNext)
        { nx := b_row_of_0 { nx := fun x => Q (.v .none), rt := Q, bk := fun x => False, ct := fun x => False }, rt := Q, bk := fun x => False, ct := fun x => False } (rs.map Rw.d) [.v (storeD ts), .v (.str t), .v (.int n), x3] := by
    intro rs
    induction rs with
    | nil =>
      intro x3 hh
      rw [List.map_nil, lp_nil]
      dsimp only
      unfold b_row_of_0
      walk_at "wl"
      exact hh
    | cons r rs ih =>
      intro x3 hh
      rw [List.map_cons, lp_cons]
      rw [List.find?_cons] at hh
      rw [Rw.e]
      generalize hN : (fun ρ'' => vLoop _ _ _ (List.map Rw.d rs) ρ'') = N
      walk_at "wl"
      refine at0 ?_
      walk_at "wl"
      by_cases e : r.i = n
      · rw [if_pos (by simpa using e)]
        rw [show decide (r.i = n) = true from decide_eq_true e] at hh
        exact hh
      · rw [if_neg (by simpa using e)]
        rw [show decide (r.i = n) = false from decide_eq_false e] at hh
        rw [← hN]
        exact ih _ hh
  exact lp rs _ h
theorem cut_drop1 {xs : List PyData} {k : Nat} : VL.cutD xs (some ((k : Int) + 1)) none = xs.drop (k + 1) := cut_hi (k := k + 1)
def linkAt (r : Rw) (k : Nat) : PyData := match r.ws[k]? with
  | some (.link t n) => .tuple [.str t, .int n]
  | _ => .none
theorem sp_link_at {r : Rw} (g : GRw r) {k : Nat} {Q : SV → Prop} (h : Q (.v (linkAt r k))) : m_link_at [.v r.d, .v (.int k)] Q := by
  rw [e_link_at]
  unfold b_link_at_2
  rw [Rw.e]
  walk_at "wl"
  refine at3 ?_
  unfold b_link_at_1
  walk_at "wl"
  unfold linkAt at h
  rw [List.length_map]
  by_cases hk : r.ws.length ≤ k
  · rw [if_pos (by omega)]
    rw [List.getElem?_eq_none hk] at h
    exact h
  rw [if_neg (by omega)]
  obtain ⟨v, ev⟩ : ∃ v, r.ws[k]? = some v := ⟨_, List.getElem?_eq_getElem (by omega)⟩
  rw [ev] at h
  refine ⟨_, atI_map ev, sp_is_link (g.ws v (List.mem_of_getElem? ev)) ?_⟩
  walk_at "wl"
  unfold b_link_at_0
  cases v with
  | link t n =>
    rw [if_neg (show ¬ isL (Vl.link t n) = false from fun z => nomatch z)]
    walk_at "wl"
    refine ⟨_, atI_map ev, ?_⟩
    simp only [Vl.d]
    walk_at "wl"
    exact h
  | _ =>
    rw [if_pos (show isL _ = false from rfl)]
    exact h
def lnk (r : Rw) (k : Nat) : Option (Str × Int) := match r.ws[k]? with
  | some (.link t n) => some (t, n)
  | _ => none
theorem linkAt_eq (r : Rw) (k : Nat) : linkAt r k = match lnk r k with | none => .none | some (t, n) => .tuple [.str t, .int n] := by
  unfold linkAt lnk
  split <;> simp_all
theorem lnk_g {r : Rw} (g : GRw r) {k : Nat} {t : Str} {n : Int} (h : lnk r k = some (t, n)) : IsW t ∧ 0 ≤ n ∧ r.ws[k]? = some (.link t n) := by
  unfold lnk at h
  split at h
  · rename_i t' n' e
    cases h
    have := g.ws _ (List.mem_of_getElem? e)
    exact ⟨this.1, this.2, e⟩
  · cases h
theorem sp_row_linked {ts : List Tb} {r : Rw} (g : GRw r) {k : Nat} {t : Str} {n : Int} (e : lnk r k = some (t, n)) {Q : SV → Prop} (h : Q (.v (rwD (lk ts t n)))) : m_row_linked [.v (storeD ts), .v r.d, .v (.int k)] Q := by
  rw [e_row_linked]
  unfold b_row_linked_1
  walk_at "wl"
  refine sp_link_at g ?_
  rw [linkAt_eq, e]
  refine ⟨_, rfl, ?_⟩
  walk_at "wl"
  unfold b_row_linked_0
  walk_at "wl"
  refine sp_row_of (lnk_g g e).2.1 ?_
  exact ⟨_, rfl, h⟩
def turn (r : Rw) (k : Nat) (v : Vl) : Rw := if k < r.ws.length then { r with ws := r.ws.take k ++ v :: r.ws.drop (k + 1) } else r
theorem sp_row_turned {r : Rw} (g : GRw r) {k : Nat} {v : Vl} {Q : SV → Prop} (h : Q (.v (turn r k v).d)) : m_row_turned [.v r.d, .v (.int k), .v v.d] Q := by
  rw [e_row_turned]
  unfold b_row_turned_2
  rw [Rw.e]
  walk_at "wl"
  unfold b_row_turned_1
  walk_at "wl"
  rw [List.length_map]
  unfold turn at h
  have wn := g.wn
  by_cases hk : r.ws.length ≤ k
  · rw [if_pos (by omega)]
    rw [if_neg (by omega)] at h
    exact h
  rw [if_neg (by omega)]
  rw [if_pos (by omega)] at h
  unfold b_row_turned_0
  walk_at "wl"
  rw [cut_lo, cut_drop1]
  have hs : 100000 ≤ sizeLine := by rw [sizeLine_eq]; decide
  refine ⟨by simp only [List.length_take, List.length_map]; omega, ?_, ?_⟩
  · simp only [List.length_append, List.length_take, List.length_drop, List.length_map, List.length_cons, List.length_nil]
    omega
  · have e : (r.ws.map Vl.d).take k ++ [v.d] ++ (r.ws.map Vl.d).drop (k + 1) = (r.ws.take k ++ v :: r.ws.drop (k + 1)).map Vl.d := by
      rw [List.map_append, List.map_cons, List.map_take, List.map_drop, List.append_assoc]
      rfl
    rw [e]
    exact h
/-! ### rules -/
structure Ru where
  w : Str
  ld : Str
  n : Option Int
def Ru.d (u : Ru) : PyData := match u.n with
  | none => .tuple [.str u.w, .str u.ld]
  | some n => .tuple [.str u.w, .str u.ld, .int n]
def rulesD (us : List Ru) : PyData := .tuple (us.map Ru.d)
structure GRu (u : Ru) : Prop where
  w : strG u.w = true
  ld : IsW u.ld
  kn : (u.w = "kept" ∨ u.w = "struck") → ∃ n, u.n = some n
def ruleOf (us : List Ru) (w ld : Str) : Option Ru := us.find? fun u => decide (u.w = w) && decide (u.ld = ld)
def ruD : Option Ru → PyData
  | none => .none
  | some u => u.d
theorem shaped_ss {a b : Str} (h : strG a = true) (h2 : strG b = true) : SeqAt.shaped (.tuple [.str a, .str b]) = true := by
  unfold SeqAt.shaped
  have e : PyData.canLay0 (.tuple [.str a, .str b]) = true := by
    simp only [PyData.canLay0, PyData.canLayAll0, Bool.and_true]
    have h1 := lay_str h
    have h3 := lay_str h2
    simp only [PyData.canLay0] at h1 h3
    rw [h1, h3]
    rfl
  rw [e]
  simp [PyData.depth, PyData.depthAll]
theorem sp_rule_of {us : List Ru} (g : ∀ u ∈ us, GRu u) {w ld : Str} (hw : strG w = true) (hl : IsW ld) {Q : SV → Prop} (h : Q (.v (ruD (ruleOf us w ld)))) : m_rule_of [.v (rulesD us), .v (.str w), .v (.str ld)] Q := by
  rw [e_rule_of]
  unfold b_rule_of_1 rulesD
  walk_at "wl"
  refine items_tup ?_
  have lp : ∀ (vs : List Ru), (∀ u ∈ vs, GRu u) → ∀ (x3 : SV), Q (.v (ruD (ruleOf vs w ld))) →
      vLoop (vgName 3) (vIfS (vTest (vBin (fEq false) (vSl (vVar 3) (fun _ Q => Q none) (vSome (vC (.int 2)))) (vTup (vCons (vVar 1) (vCons (vVar 2) vNil))))) (vRet (vVar 3)) vNext)
        { nx := b_rule_of_0 { nx := fun x => Q (.v .none), rt := Q, bk := fun x => False, ct := fun x => False }, rt := Q, bk := fun x => False, ct := fun x => False } (vs.map Ru.d) [.v (.tuple (us.map Ru.d)), .v (.str w), .v (.str ld), x3] := by
    intro vs
    induction vs with
    | nil =>
      intro _ x3 hh
      rw [List.map_nil, lp_nil]
      unfold b_rule_of_0
      walk_at "wl"
      exact hh
    | cons u vs ih =>
      intro gu x3 hh
      rw [List.map_cons, lp_cons]
      have gu0 := gu u (by simp)
      have ih := ih (fun v hv => gu v (by simp [hv])) (.v u.d)
      generalize hN : (fun ρ'' => vLoop _ _ _ (List.map Ru.d vs) ρ'') = N
      have ih : Q (.v (ruD (ruleOf vs w ld))) → N [.v (.tuple (us.map Ru.d)), .v (.str w), .v (.str ld), .v u.d] := fun z => by rw [← hN]; exact ih z
      clear hN
      unfold ruleOf at hh
      rw [List.find?_cons] at hh
      have c2 : ∀ {R : Prop}, (PyData.eqv (.tuple [.str u.w, .str u.ld]) (.tuple [.str w, .str ld]) = (decide (u.w = w) && decide (u.ld = ld)) → R) → R := fun k => k (by simp only [PyData.eqv, PyData.eqvAll, Bool.and_true]; rfl)
      have two : ∀ xs : List PyData, VL.cutD (.str u.w :: .str u.ld :: xs) none (some 2) = [.str u.w, .str u.ld] := fun xs => cut_lo (k := 2)
      have fin : fEq false (.v (.tuple [.str u.w, .str u.ld])) (.v (.tuple [.str w, .str ld])) fun s => ∃ b, s = .v (.bool b) ∧ if b = true then Q (.v u.d) else N [.v (.tuple (us.map Ru.d)), .v (.str w), .v (.str ld), .v u.d] := by
        refine ⟨_, _, rfl, rfl, shaped_ss gu0.w gu0.ld.strG, shaped_ss hw hl.strG, ?_⟩
        refine c2 fun e => ?_
        simp only [Bool.false_eq_true, if_false]
        rw [e]
        refine ⟨_, rfl, ?_⟩
        cases ec : (decide (u.w = w) && decide (u.ld = ld)) with
        | true => rw [ec] at hh; exact (if_pos rfl).mpr hh
        | false => rw [ec] at hh; exact (if_neg Bool.false_ne_true).mpr (ih hh)
      unfold Ru.d at fin ⊢
      cases hn : u.n with
      | none =>
        rw [hn] at fin
        walk_at "wl"
        rw [two]
        walk_at "wl"
        exact fin
      | some n =>
        rw [hn] at fin
        walk_at "wl"
        rw [two]
        walk_at "wl"
        exact fin
  exact lp us g _ h
def keptD (us : List Ru) (tick : Int) (r : Rw) : Bool := match ruleOf us "kept" r.ld with
  | some ⟨_, _, some n⟩ => decide (tick - r.bn < n)
  | _ => false
def strayD (us : List Ru) (home : Str) (r : Rw) : Bool := !decide (r.ld = home) && (ruleOf us "stay" r.ld).isSome
theorem ruleOf_g {us : List Ru} (g : ∀ u ∈ us, GRu u) {w ld : Str} {u : Ru} (h : ruleOf us w ld = some u) : GRu u ∧ u.w = w ∧ u.ld = ld := by
  have h1 := List.find?_some h
  simp only [Bool.and_eq_true, decide_eq_true_eq] at h1
  exact ⟨g u (List.mem_of_find?_eq_some h), h1.1, h1.2⟩
theorem sp_is_kept {us : List Ru} (g : ∀ u ∈ us, GRu u) {r : Rw} (gr : GRw r) {tick : Int} {Q : SV → Prop} (h : Q (.v (.bool (keptD us tick r)))) : m_is_kept [.v r.d, .v (rulesD us), .v (.int tick)] Q := by
  unfold m_is_kept t_is_kept
  rw [Rw.e]
  walk_at "wl"
  refine at1 ?_
  refine sp_rule_of g (by decide +kernel) gr.ld ?_
  unfold keptD at h
  cases e : ruleOf us "kept" r.ld with
  | none =>
    rw [e] at h
    simp only [ruD]
    walk_at "wl"
    rw [m_isN]
    exact ⟨_, rfl, (if_neg (show ¬ false = true from Bool.false_ne_true)).mpr h⟩
  | some u =>
    rw [e] at h
    obtain ⟨gu, ew, _⟩ := ruleOf_g g e
    obtain ⟨n, en⟩ := gu.kn (.inl ew)
    have ed : u.d = .tuple [.str u.w, .str u.ld, .int n] := by unfold Ru.d; rw [en]
    obtain ⟨uw, ul, un⟩ := u
    dsimp only at en
    subst en
    simp only [ruD]
    rw [ed]
    walk_at "wl"
    rw [m_isN]
    refine ⟨_, rfl, (if_pos (show true = true from rfl)).mpr ?_⟩
    refine at2 ?_
    walk_at "wl"
    refine at2 ?_
    walk_at "wl"
    exact h
theorem sp_is_stray {us : List Ru} (g : ∀ u ∈ us, GRu u) {r : Rw} (gr : GRw r) {home : Str} {Q : SV → Prop} (h : Q (.v (.bool (strayD us home r)))) : m_is_stray [.v r.d, .v (rulesD us), .v (.str home)] Q := by
  unfold m_is_stray t_is_stray
  rw [Rw.e]
  walk_at "wl"
  refine at1 ?_
  walk_at "wl"
  unfold strayD at h
  by_cases e : r.ld = home
  · rw [decide_eq_true e] at h
    refine (if_neg (by simpa using e)).mpr ?_
    exact h
  · rw [decide_eq_false e] at h
    refine (if_pos (by simpa using e)).mpr ?_
    refine at1 ?_
    refine sp_rule_of g (by decide +kernel) gr.ld ?_
    rw [m_isN]
    cases e2 : ruleOf us "stay" r.ld with
    | none =>
      rw [e2] at h
      exact ⟨_, rfl, h⟩
    | some u =>
      rw [e2] at h
      simp only [ruD]
      unfold Ru.d
      cases u.n <;> exact ⟨_, rfl, h⟩
/-! ### data without dicts -/
mutual
theorem alike_refl : ∀ d : PyData, d.hasDict = false → PySem.W.alike d d = true
  | .none, _ => rfl
  | .bool _, _ => rfl
  | .int _, _ => rfl
  | .str _, _ => rfl
  | .list xs, h => by
    simp only [PyData.hasDict] at h
    show PySem.W.alikeAll xs xs = true
    exact alikeAll_refl xs h
  | .tuple xs, h => by
    simp only [PyData.hasDict] at h
    show PySem.W.alikeAll xs xs = true
    exact alikeAll_refl xs h
  | .dict _, h => by simp [PyData.hasDict] at h
theorem alikeAll_refl : ∀ ds : List PyData, PyData.hasDictAll ds = false → PySem.W.alikeAll ds ds = true
  | [], _ => rfl
  | d :: ds, h => by
    simp only [PyData.hasDictAll, Bool.or_eq_false_iff] at h
    rw [PySem.W.alikeAll, alike_refl d h.1, alikeAll_refl ds h.2]
    rfl
end
mutual
theorem eqv_refl : ∀ d : PyData, d.hasDict = false → PyData.eqv d d = true
  | .none, _ => by simp [PyData.eqv]
  | .bool _, _ => by simp [PyData.eqv]
  | .int _, _ => by simp [PyData.eqv]
  | .str _, _ => by simp [PyData.eqv]
  | .list xs, h => by
    simp only [PyData.hasDict] at h
    simp only [PyData.eqv]
    exact eqvAll_refl xs h
  | .tuple xs, h => by
    simp only [PyData.hasDict] at h
    simp only [PyData.eqv]
    exact eqvAll_refl xs h
  | .dict _, h => by simp [PyData.hasDict] at h
theorem eqvAll_refl : ∀ ds : List PyData, PyData.hasDictAll ds = false → PyData.eqvAll ds ds = true
  | [], _ => by simp [PyData.eqvAll]
  | d :: ds, h => by
    simp only [PyData.hasDictAll, Bool.or_eq_false_iff] at h
    simp only [PyData.eqvAll, eqv_refl d h.1, eqvAll_refl ds h.2, Bool.and_self]
end
theorem nd_map {α : Type} {f : α → PyData} {l : List α} (h : ∀ a ∈ l, (f a).hasDict = false) : PyData.hasDictAll (l.map f) = false := by
  induction l with
  | nil => rfl
  | cons a l ih =>
    rw [List.map_cons]
    simp only [PyData.hasDictAll, h a (by simp), ih fun b hb => h b (by simp [hb]), Bool.or_self]
theorem lay_map {α : Type} {f : α → PyData} {l : List α} (h : ∀ a ∈ l, (f a).canLay0 = true) : PyData.canLayAll0 (l.map f) = true := by
  induction l with
  | nil => rfl
  | cons a l ih =>
    rw [List.map_cons]
    simp only [PyData.canLayAll0, h a (by simp), ih fun b hb => h b (by simp [hb]), Bool.and_self]
theorem dep_map {α : Type} {f : α → PyData} {l : List α} {n : Nat} (h : ∀ a ∈ l, (f a).depth ≤ n) : PyData.depthAll (l.map f) ≤ n := by
  induction l with
  | nil => simp [PyData.depthAll]
  | cons a l ih =>
    rw [List.map_cons]
    simp only [PyData.depthAll]
    exact Nat.max_le.mpr ⟨h a (by simp), ih fun b hb => h b (by simp [hb])⟩
theorem Vl.nd (v : Vl) : v.d.hasDict = false := by cases v <;> rfl
theorem Rw.nd (r : Rw) : r.d.hasDict = false := by
  rw [Rw.e]
  simp only [PyData.hasDict, PyData.hasDictAll, nd_map fun a _ => Vl.nd a, Bool.or_self]
theorem Tb.nd (t : Tb) : t.d.hasDict = false := by
  rw [Tb.e]
  have h2 : PyData.hasDictAll (t.ix.map PyData.int) = false := nd_map fun _ _ => rfl
  simp only [PyData.hasDict, PyData.hasDictAll, nd_map fun a _ => Rw.nd a, h2, Bool.or_self]
theorem store_nd (ts : List Tb) : (storeD ts).hasDict = false := by
  unfold storeD
  simp only [PyData.hasDict, nd_map fun a _ => Tb.nd a]
theorem GRw.lay {r : Rw} (g : GRw r) : r.d.canLay0 = true ∧ r.d.depth ≤ 4 := by
  rw [Rw.e]
  have h1 := lay_str g.ld.strG
  have h2 : PyData.canLayAll0 (r.ws.map Vl.d) = true := lay_map fun v hv => (g.ws v hv).lay.1
  have h3 : PyData.depthAll (r.ws.map Vl.d) ≤ 1 := dep_map fun v hv => (g.ws v hv).lay.2.1
  refine ⟨?_, ?_⟩
  · simp only [PyData.canLay0] at h1 ⊢
    simp only [PyData.canLayAll0, PyData.canLay0, h1, h2, Bool.and_self]
  · simp only [PyData.depth, PyData.depthAll]
    omega
theorem GTb.lay {N : Nat} {t : Tb} (g : GTb N t) : t.d.canLay0 = true ∧ t.d.depth ≤ 8 := by
  rw [Tb.e]
  have h1 := lay_str g.nm.strG
  have h2 : PyData.canLayAll0 (t.rows.map Rw.d) = true := lay_map fun v hv => (g.gr v hv).lay.1
  have h3 : PyData.depthAll (t.rows.map Rw.d) ≤ 4 := dep_map fun v hv => (g.gr v hv).lay.2
  have h4 : PyData.canLayAll0 (t.ix.map PyData.int) = true := lay_map fun _ _ => rfl
  have h5 : PyData.depthAll (t.ix.map PyData.int) ≤ 0 := dep_map fun _ _ => by simp [PyData.depth]
  refine ⟨?_, ?_⟩
  · simp only [PyData.canLay0] at h1 ⊢
    simp only [PyData.canLayAll0, PyData.canLay0, h1, h2, h4, Bool.and_self]
  · simp only [PyData.depth, PyData.depthAll]
    omega
theorem GSt.shaped {N : Nat} {ts : List Tb} (g : GSt N ts) : SeqAt.shaped (storeD ts) = true := by
  have h1 : PyData.canLayAll0 (ts.map Tb.d) = true := lay_map fun t ht => (g.gt t ht).lay.1
  have h2 : PyData.depthAll (ts.map Tb.d) ≤ 8 := dep_map fun t ht => (g.gt t ht).lay.2
  have h3 : (storeD ts).depth ≤ 64 := by
    unfold storeD
    simp only [PyData.depth]
    omega
  have h4 : (storeD ts).canLay0 = true := by
    unfold storeD
    simp only [PyData.canLay0]
    exact h1
  unfold SeqAt.shaped
  rw [h4, decide_eq_true h3]
  rfl
/-! ### a table put into a store -/
def insT : List Tb → Tb → List Tb
  | [], t => [t]
  | u :: us, t => if u.nm = t.nm then t :: us else if ltS u.nm t.nm then u :: insT us t else t :: u :: us
theorem tab_ins {t : Tb} {nm : Str} : ∀ {ts : List Tb}, tab (insT ts t) nm = if t.nm = nm then t else tab ts nm
  | [] => rfl
  | u :: us => by
    unfold insT
    by_cases e : u.nm = t.nm
    · rw [if_pos e]
      unfold tab
      by_cases e2 : t.nm = nm
      · rw [if_pos e2, if_pos e2]
      · rw [if_neg e2, if_neg e2, if_neg (by rw [e]; exact e2)]
    · rw [if_neg e]
      by_cases e3 : ltS u.nm t.nm
      · rw [if_pos e3]
        unfold tab
        rw [tab_ins]
        by_cases e2 : t.nm = nm
        · rw [if_pos e2, if_neg fun z => e (z.trans e2.symm), if_pos e2]
        · rw [if_neg e2, if_neg e2]
      · rw [if_neg e3]
        show (if t.nm = nm then t else tab (u :: us) nm) = _
        rfl
theorem has_ins {t : Tb} {nm : Str} : ∀ {ts : List Tb}, has (insT ts t) nm = (decide (t.nm = nm) || has ts nm)
  | [] => rfl
  | u :: us => by
    unfold insT
    by_cases e : u.nm = t.nm
    · rw [if_pos e]
      unfold has
      rw [e]
      cases decide (t.nm = nm) <;> simp
    · rw [if_neg e]
      by_cases e3 : ltS u.nm t.nm
      · rw [if_pos e3]
        unfold has
        rw [has_ins]
        cases decide (t.nm = nm) <;> cases decide (u.nm = nm) <;> simp
      · rw [if_neg e3]
        rfl
theorem mem_ins {t v : Tb} : ∀ {ts : List Tb}, v ∈ insT ts t → v = t ∨ v ∈ ts
  | [], h => .inl (List.mem_singleton.mp h)
  | u :: us, h => by
    unfold insT at h
    split at h
    · rcases List.mem_cons.mp h with h | h
      · exact .inl h
      · exact .inr (by simp [h])
    · split at h
      · rcases List.mem_cons.mp h with h | h
        · exact .inr (by simp [h])
        · rcases mem_ins h with h | h
          · exact .inl h
          · exact .inr (by simp [h])
      · rcases List.mem_cons.mp h with h | h
        · exact .inl h
        · exact .inr h
theorem mem_ins_iff {t v : Tb} : ∀ {ts : List Tb}, (ts.Pairwise fun a b => ltS a.nm b.nm) → (v ∈ insT ts t ↔ v = t ∨ (v ∈ ts ∧ v.nm ≠ t.nm))
  | [], _ => by simp [insT]
  | u :: us, so => by
    rw [List.pairwise_cons] at so
    unfold insT
    by_cases e : u.nm = t.nm
    · rw [if_pos e]
      constructor
      · intro h
        rcases List.mem_cons.mp h with h | h
        · exact .inl h
        · refine .inr ⟨by simp [h], fun z => ?_⟩
          have := so.1 v h
          rw [e, ← z] at this
          exact ltS_irr _ this
      · rintro (h | ⟨h, n⟩)
        · simp [h]
        · rcases List.mem_cons.mp h with h | h
          · rw [h] at n; exact absurd e n
          · simp [h]
    · rw [if_neg e]
      by_cases e3 : ltS u.nm t.nm
      · rw [if_pos e3, List.mem_cons, mem_ins_iff so.2, List.mem_cons]
        constructor
        · rintro (h | h | ⟨h, n⟩)
          · exact .inr ⟨.inl h, by rw [h]; exact e⟩
          · exact .inl h
          · exact .inr ⟨.inr h, n⟩
        · rintro (h | ⟨h | h, n⟩)
          · exact .inr (.inl h)
          · exact .inl h
          · exact .inr (.inr ⟨h, n⟩)
      · rw [if_neg e3]
        have lt : ltS t.nm u.nm := (ltS_tri (Ne.symm e)).resolve_right e3
        constructor
        · intro h
          rcases List.mem_cons.mp h with h | h
          · exact .inl h
          · refine .inr ⟨h, fun z => ?_⟩
            rcases List.mem_cons.mp h with h | h
            · rw [h] at z; exact e z
            · have := ltS_trans lt (so.1 v h)
              rw [z] at this
              exact ltS_irr _ this
        · rintro (h | ⟨h, _⟩)
          · simp [h]
          · exact List.mem_cons_of_mem _ h
theorem so_ins {t : Tb} : ∀ {ts : List Tb}, (ts.Pairwise fun a b => ltS a.nm b.nm) → (insT ts t).Pairwise fun a b => ltS a.nm b.nm
  | [], _ => List.pairwise_singleton _ _
  | u :: us, so => by
    have so0 := so
    rw [List.pairwise_cons] at so
    unfold insT
    by_cases e : u.nm = t.nm
    · rw [if_pos e, List.pairwise_cons]
      exact ⟨fun v hv => by rw [← e]; exact so.1 v hv, so.2⟩
    · rw [if_neg e]
      by_cases e3 : ltS u.nm t.nm
      · rw [if_pos e3, List.pairwise_cons]
        refine ⟨fun v hv => ?_, so_ins so.2⟩
        rcases mem_ins hv with h | h
        · rw [h]; exact e3
        · exact so.1 v h
      · rw [if_neg e3, List.pairwise_cons]
        have lt : ltS t.nm u.nm := (ltS_tri (Ne.symm e)).resolve_right e3
        refine ⟨fun v hv => ?_, so0⟩
        rcases List.mem_cons.mp hv with h | h
        · rw [h]; exact lt
        · exact ltS_trans lt (so.1 v h)
theorem len_ins {t : Tb} : ∀ {ts : List Tb}, (insT ts t).length ≤ ts.length + 1
  | [] => Nat.le_refl _
  | u :: us => by
    unfold insT
    split
    · simp
    · split
      · simp only [List.length_cons]
        have := len_ins (t := t) (ts := us)
        omega
      · simp
theorem lt_head {x y : Str} {r r' : List PyData} (h : ltS x y) : PySem.W.dataLt (.tuple (.str x :: r)) (.tuple (.str y :: r')) = true := by
  have ne : x ≠ y := fun e => by rw [e] at h; exact ltS_irr _ h
  rw [PySem.W.dataLt_tuple, PySem.W.dataLt_all_no (x := .str x) (y := .str y) rfl (by simp only [PyData.eqv]; exact beq_false_of_ne ne), PySem.W.dataLt_str]
  exact decide_eq_true h
theorem strict_ext {α : Type} {R : α → α → Prop} (irr : ∀ a, ¬ R a a) (asym : ∀ a b, R a b → ¬ R b a) : ∀ {xs ys : List α}, xs.Pairwise R → ys.Pairwise R → (∀ a, a ∈ xs ↔ a ∈ ys) → xs = ys
  | [], [], _, _, _ => rfl
  | [], y :: ys, _, _, h => by have := (h y).mpr (by simp); cases this
  | x :: xs, [], _, _, h => by have := (h x).mp (by simp); cases this
  | x :: xs, y :: ys, hx, hy, h => by
    rw [List.pairwise_cons] at hx hy
    have e : x = y := by
      rcases List.mem_cons.mp ((h x).mp (by simp)) with e | e
      · exact e
      · rcases List.mem_cons.mp ((h y).mpr (by simp)) with e2 | e2
        · exact e2.symm
        · exact absurd (hx.1 y e2) (asym _ _ (hy.1 x e))
    subst e
    rw [strict_ext irr asym hx.2 hy.2 fun a => ⟨fun ha => ?_, fun ha => ?_⟩]
    · rcases List.mem_cons.mp ((h a).mp (by simp [ha])) with e | e
      · subst e; exact absurd (hx.1 a ha) (irr a)
      · exact e
    · rcases List.mem_cons.mp ((h a).mpr (by simp [ha])) with e | e
      · subst e; exact absurd (hy.1 a ha) (irr a)
      · exact e
theorem dle_total (a b : PyData) : PySem.W.dataLe false id a b = true ∨ PySem.W.dataLe false id b a = true :=
  (PySem.W.sortLe_total (PyProof.Rows.listOrd PyProof.Rows.itemOrd) false fun b : PyData => PySem.W.keyToks b).total a b
theorem dle_trans (a b c : PyData) (h : PySem.W.dataLe false id a b = true) (h2 : PySem.W.dataLe false id b c = true) : PySem.W.dataLe false id a c = true :=
  (PySem.W.sortLe_total (PyProof.Rows.listOrd PyProof.Rows.itemOrd) false fun b : PyData => PySem.W.keyToks b).trans a b c h h2
def srt {α : Type} (f : α → PyData) (l : List α) : List α := l.mergeSort fun a b => PySem.W.dataLe false id (f a) (f b)
theorem srt_map {α : Type} (f : α → PyData) (l : List α) : Srts (l.map f) = (srt f l).map f := (List.map_mergeSort (f := f) (r := fun a b => PySem.W.dataLe false id (f a) (f b)) (s := PySem.W.dataLe false id) fun _ _ _ _ => rfl).symm
theorem srt_perm {α : Type} (f : α → PyData) (l : List α) : (srt f l).Perm l := List.mergeSort_perm _ _
theorem srt_mem {α : Type} {f : α → PyData} {l : List α} {a : α} : a ∈ srt f l ↔ a ∈ l := (srt_perm f l).mem_iff
theorem srt_pw {α : Type} (f : α → PyData) (l : List α) : (srt f l).Pairwise fun a b => PySem.W.dataLe false id (f a) (f b) = true :=
  List.pairwise_mergeSort (le := fun a b => PySem.W.dataLe false id (f a) (f b)) (fun a b c => dle_trans (f a) (f b) (f c)) (fun a b => by
    rcases dle_total (f a) (f b) with h | h
    · rw [h]; rfl
    · rw [h]; simp) l
/-- sorted, where different ones have different ranks -/
theorem srt_strict {α : Type} {f : α → PyData} {R : α → α → Prop} {l : List α} (hR : ∀ a b, R a b → PySem.W.dataLt (f a) (f b) = true) (tri : ∀ a ∈ l, ∀ b ∈ l, a ≠ b → R a b ∨ R b a) (nd : l.Nodup) : (srt f l).Pairwise R := by
  have h1 := srt_pw f l
  have h2 : (srt f l).Nodup := (srt_perm f l).nodup_iff.mpr nd
  refine (h1.and h2).imp_of_mem fun {a b} ha hb ⟨h, ne⟩ => ?_
  rcases tri a (srt_mem.mp ha) b (srt_mem.mp hb) ne with r | r
  · exact r
  · have := hR b a r
    have h' : (!PySem.W.dataLt (f b) (f a)) = true := h
    rw [this] at h'; cases h'
theorem nodup_of_names {ts : List Tb} (so : ts.Pairwise fun a b => ltS a.nm b.nm) : ts.Nodup := so.imp fun {a b} h e => by
  rw [e] at h
  exact ltS_irr _ h
theorem same_name {ts : List Tb} (so : ts.Pairwise fun a b => ltS a.nm b.nm) {a b : Tb} (ha : a ∈ ts) (hb : b ∈ ts) (e : a.nm = b.nm) : a = b := by
  induction ts with
  | nil => cases ha
  | cons t ts ih =>
    rw [List.pairwise_cons] at so
    rcases List.mem_cons.mp ha with h | h <;> rcases List.mem_cons.mp hb with h2 | h2
    · rw [h, h2]
    · have := so.1 b h2
      rw [← h, e] at this
      exact absurd this (ltS_irr _)
    · have := so.1 a h
      rw [← h2, ← e] at this
      exact absurd this (ltS_irr _)
    · exact ih so.2 h h2
def othersT (ts : List Tb) (t : Tb) : List Tb := ts.filter fun u => !decide (u.nm = t.nm)
theorem mem_others {ts : List Tb} {t u : Tb} : u ∈ othersT ts t ↔ u ∈ ts ∧ u.nm ≠ t.nm := by
  unfold othersT
  rw [List.mem_filter]
  simp
theorem srt_ins {ts : List Tb} {t : Tb} (so : ts.Pairwise fun a b => ltS a.nm b.nm) : srt Tb.d (othersT ts t ++ [t]) = insT ts t := by
  have mem : ∀ a, a ∈ othersT ts t ++ [t] ↔ a ∈ insT ts t := fun a => by
    rw [List.mem_append, List.mem_singleton, mem_others, mem_ins_iff so]
    exact Or.comm
  refine strict_ext (R := fun a b : Tb => ltS a.nm b.nm) (fun a => ltS_irr _) (fun a b h => ltS_asym h) (srt_strict (fun a b h => lt_head h) (fun a ha b hb ne => ?_) ?_) (so_ins so) fun a => srt_mem.trans (mem a)
  · by_cases e : a.nm = b.nm
    · exact absurd (same_name (so_ins so) ((mem a).mp ha) ((mem b).mp hb) e) ne
    · exact ltS_tri e
  · rw [List.nodup_append]
    refine ⟨(nodup_of_names so).filter _, by simp, fun a ha b hb e => ?_⟩
    rw [List.mem_singleton.mp hb] at e
    exact (mem_others.mp ha).2 (by rw [e])
theorem head_alike {ts : List Tb} (so : ts.Pairwise fun a b => ltS a.nm b.nm) : HeadAlike (ts.map Tb.d) where
  tup := fun d hd => by
    obtain ⟨t, _, rfl⟩ := List.mem_map.mp hd
    exact ⟨_, _, rfl⟩
  alk := fun x r r' h h' => by
    obtain ⟨t, ht, e⟩ := List.mem_map.mp h
    obtain ⟨u, hu, e'⟩ := List.mem_map.mp h'
    have en : t.nm = u.nm := by
      rw [Tb.e] at e e'
      injection e with e; injection e with e1 e2; injection e1 with e1
      injection e' with e'; injection e' with e1' e2'; injection e1' with e1'
      rw [e1, e1']
    have := same_name so ht hu en
    subst this
    rw [e] at e'
    injection e' with e'; injection e' with _ e'
    subst e'
    have nd := Tb.nd t
    rw [e] at nd
    simp only [PyData.hasDict, PyData.hasDictAll, Bool.or_eq_false_iff] at nd
    exact alikeAll_refl r nd.2
theorem sp_with_table {N : Nat} {ts : List Tb} {t : Tb} (g : GSt N ts) (hN : N ≤ 60) {M : Nat} (gt : GTb M t) {Q : SV → Prop} (h : Q (.v (storeD (insT ts t)))) : m_with_table [.v (storeD ts), .v t.d] Q := by
  unfold m_with_table t_with_table
  have tl := g.tl
  have ed : ∀ u : Tb, u.d = .tuple [.str u.nm, .int u.nx, .tuple (u.rows.map Rw.d), .tuple (u.ix.map .int)] := Tb.e
  walk_at "wl"
  unfold storeD
  refine items_tup ?_
  refine cloop_if Tb.d (fun u => !decide (u.nm = t.nm)) Tb.d (fun u hu K1 K2 k1 k2 => ?_) (by omega) ?_
  · walk_at "wl"
    rw [ed u, ed t]
    walk_at "wl"
    refine at0 ?_
    walk_at "wl"
    refine at0 ?_
    walk_at "wl"
    rw [← ed u]
    by_cases e : u.nm = t.nm
    · refine (if_neg ?_).mpr (k2 ?_)
      · rw [e]; simp
      · rw [decide_eq_true e]; rfl
    · refine (if_pos ?_).mpr (k1 ?_)
      · simpa using e
      · rw [decide_eq_false e]; rfl
  · have fl : (ts.filter fun u => !decide (u.nm = t.nm)).map Tb.d ++ [t.d] = (othersT ts t ++ [t]).map Tb.d := by
      rw [List.map_append]
      rfl
    have mem : ∀ a, a ∈ othersT ts t ++ [t] → a ∈ insT ts t := fun a ha => by
      rw [List.mem_append, List.mem_singleton, mem_others] at ha
      exact (mem_ins_iff g.so).mpr ha.symm
    have hs : 100000 ≤ sizeLine := by rw [sizeLine_eq]; decide
    have l1 : (othersT ts t).length ≤ ts.length := List.length_filter_le _ _
    walk_at "wl"
    refine ⟨?_, ?_⟩
    · show ((ts.filter fun u => !decide (u.nm = t.nm)).map Tb.d).length + 1 ≤ _
      rw [List.length_map]
      unfold othersT at l1
      omega
    rw [fl]
    refine ⟨_, _, rfl, rfl, ?_, nd_map fun a _ => Tb.nd a, ?_, ?_⟩
    · have hh := head_alike (so_ins (t := t) g.so)
      refine ⟨fun d hd => ?_, fun x r r' h1 h2 => hh.alk x r r' ?_ ?_⟩
      · obtain ⟨u, hu, rfl⟩ := List.mem_map.mp hd
        exact ⟨_, _, ed u⟩
      · obtain ⟨u, hu, e⟩ := List.mem_map.mp h1
        exact List.mem_map.mpr ⟨u, mem u hu, e⟩
      · obtain ⟨u, hu, e⟩ := List.mem_map.mp h2
        exact List.mem_map.mpr ⟨u, mem u hu, e⟩
    · intro d hd
      obtain ⟨u, hu, rfl⟩ := List.mem_map.mp hd
      rcases mem_ins (mem u hu) with e | e
      · rw [e]; exact Nat.le_trans gt.lay.2 (by decide)
      · exact Nat.le_trans (g.gt u e).lay.2 (by decide)
    · rw [srt_map, srt_ins g.so]
      walk_at "wl"
      exact h
/-! ### jobs -/
inductive Jb
  | put (t ld : Str) (ws : List Vl)
  | set (t : Str) (n : Int) (k : Nat) (v : Vl)
  | add (t : Str) (n : Int) (k : Nat) (m : Int)
  | drop (t : Str) (n : Int)
  | index (t : Str) (k : Nat)
  | rows (t : Str) (cs : List Cd) (m : Nat)
  | count (t : Str) (cs : List Cd)
  | sum (t : Str) (k : Nat) (cs : List Cd)
  | get (t : Str) (n : Int)
  | follow (t : Str) (n : Int) (k : Nat)
def Jb.d : Jb → PyData
  | .put t ld ws => .tuple [.str "put", .str t, .str ld, .tuple (ws.map Vl.d)]
  | .set t n k v => .tuple [.str "set", .str t, .int n, .int k, v.d]
  | .add t n k m => .tuple [.str "add", .str t, .int n, .int k, .int m]
  | .drop t n => .tuple [.str "drop", .str t, .int n]
  | .index t k => .tuple [.str "index", .str t, .int k]
  | .rows t cs m => .tuple [.str "rows", .str t, condsD cs, .int m]
  | .count t cs => .tuple [.str "count", .str t, condsD cs]
  | .sum t k cs => .tuple [.str "sum", .str t, .int k, condsD cs]
  | .get t n => .tuple [.str "get", .str t, .int n]
  | .follow t n k => .tuple [.str "follow", .str t, .int n, .int k]
def Jb.w : Jb → Str
  | .put _ _ _ => "put"
  | .set _ _ _ _ => "set"
  | .add _ _ _ _ => "add"
  | .drop _ _ => "drop"
  | .index _ _ => "index"
  | .rows _ _ _ => "rows"
  | .count _ _ => "count"
  | .sum _ _ _ => "sum"
  | .get _ _ => "get"
  | .follow _ _ _ => "follow"
def Jb.t : Jb → Str
  | .put t _ _ => t
  | .set t _ _ _ => t
  | .add t _ _ _ => t
  | .drop t _ => t
  | .index t _ => t
  | .rows t _ _ => t
  | .count t _ => t
  | .sum t _ _ => t
  | .get t _ => t
  | .follow t _ _ => t
theorem jb0 {j : Jb} {Q : SV → Prop} (q : Q (.v (.str j.w))) : fIx (.v j.d) (.v (.int 0)) Q := by cases j <;> exact ⟨0, rfl, .inl ⟨_, _, rfl, rfl, q⟩⟩
theorem jb1 {j : Jb} {Q : SV → Prop} (q : Q (.v (.str j.t))) : fIx (.v j.d) (.v (.int 1)) Q := by cases j <;> exact ⟨1, rfl, .inl ⟨_, _, rfl, rfl, q⟩⟩
def GJ : Jb → Prop
  | .put t ld ws => IsW t ∧ IsW ld ∧ (∀ w ∈ ws, OV w) ∧ ws.length ≤ 1000
  | .set t n _ v => IsW t ∧ 0 ≤ n ∧ OV v
  | .add t n _ _ => IsW t ∧ 0 ≤ n
  | .drop t n => IsW t ∧ 0 ≤ n
  | .index t _ => IsW t
  | .rows t cs _ => IsW t ∧ (∀ c ∈ cs, GC c) ∧ cs.length ≤ 1000
  | .count t cs => IsW t ∧ (∀ c ∈ cs, GC c) ∧ cs.length ≤ 1000
  | .sum t _ cs => IsW t ∧ (∀ c ∈ cs, GC c) ∧ cs.length ≤ 1000
  | .get t n => IsW t ∧ 0 ≤ n
  | .follow t n _ => IsW t ∧ 0 ≤ n
theorem gj_t {j : Jb} (h : GJ j) : IsW j.t := by
  cases j <;> first | exact h.1 | exact h
/-! ### deeds -/
def newRow (ts : List Tb) (t ld : Str) (ws : List Vl) (tick : Int) : Rw := ⟨(tab ts t).nx, ld, tick, ws⟩
theorem sp_row_put {ts : List Tb} {t ld : Str} {ws : List Vl} {tick : Int} {Q : SV → Prop} (h : Q (.v (newRow ts t ld ws tick).d)) : m_row_put [.v (storeD ts), .v (Jb.put t ld ws).d, .v (.int tick)] Q := by
  unfold m_row_put t_row_put Jb.d
  walk_at "wl"
  refine at1 ?_
  refine sp_table_in ?_
  rw [Tb.e]
  walk_at "wl"
  refine at1 ?_
  walk_at "wl"
  refine at2 ?_
  walk_at "wl"
  refine at3 ?_
  exact h
def putTb (ts : List Tb) (t ld : Str) (ws : List Vl) (tick : Int) : Tb := { tab ts t with nx := (tab ts t).nx + 1, rows := (tab ts t).rows ++ [newRow ts t ld ws tick] }
theorem put_g {N : Nat} {ts : List Tb} (g : GSt N ts) {t ld : Str} {ws : List Vl} {tick : Int} (j : GJ (.put t ld ws)) (h0 : 0 ≤ tick) : GTb (N + 1) (putTb ts t ld ws tick) := by
  have gt := tab_g g j.1
  obtain ⟨_, hl, hw, wn⟩ := j
  have n0 := gt.n0
  refine ⟨gt.nm, by show 0 ≤ (tab ts t).nx + 1; omega, fun r hr => ?_, ?_, fun r hr => ?_, ?_, gt.ix, gt.xr, Nat.le_succ_of_le gt.il⟩
  · rcases List.mem_append.mp hr with hr | hr
    · exact gt.gr r hr
    · rw [List.mem_singleton.mp hr]
      exact ⟨n0, hl, h0, hw, wn⟩
  · refine List.pairwise_append.mpr ⟨gt.ri, List.pairwise_singleton _ _, fun a ha b hb => ?_⟩
    rw [List.mem_singleton.mp hb]
    exact gt.lt a ha
  · show r.i < (tab ts t).nx + 1
    rcases List.mem_append.mp hr with hr | hr
    · have := gt.lt r hr
      omega
    · rw [List.mem_singleton.mp hr]
      show (tab ts t).nx < _
      omega
  · show ((tab ts t).rows ++ [_]).length ≤ N + 1
    rw [List.length_append]
    exact Nat.succ_le_succ gt.rl
theorem ins_g {N M : Nat} {ts : List Tb} {t : Tb} (g : GSt N ts) (gt : GTb M t) (h : N + 1 ≤ M) : GSt M (insT ts t) := by
  refine ⟨fun u hu => ?_, so_ins g.so, Nat.le_trans len_ins (by have := g.tl; omega)⟩
  rcases mem_ins hu with e | e
  · rw [e]; exact gt
  · have a := g.gt u e
    exact ⟨a.nm, a.n0, a.gr, a.ri, a.lt, by have := a.rl; omega, a.ix, a.xr, by have := a.il; omega⟩
theorem GSt.mono {N M : Nat} {ts : List Tb} (g : GSt N ts) (h : N ≤ M) : GSt M ts :=
  ⟨fun u hu => by
    have a := g.gt u hu
    exact ⟨a.nm, a.n0, a.gr, a.ri, a.lt, by have := a.rl; omega, a.ix, a.xr, by have := a.il; omega⟩, g.so, by have := g.tl; omega⟩
theorem sp_put_done {N : Nat} {ts : List Tb} (g : GSt N ts) (hN : N ≤ 50) {t ld : Str} {ws : List Vl} {tick : Int} (j : GJ (.put t ld ws)) (h0 : 0 ≤ tick) {Q : SV → Prop} (h : Q (.v (.tuple [storeD (insT ts (putTb ts t ld ws tick)), .int (tab ts t).nx]))) :
    m_put_done [.v (storeD ts), .v (Jb.put t ld ws).d, .v (.int tick)] Q := by
  unfold m_put_done t_put_done
  have gt := tab_g g j.1
  have rl := gt.rl
  have hs : 100000 ≤ sizeLine := by rw [sizeLine_eq]; decide
  walk_at "wl"
  refine jb1 ?_
  simp only [Jb.t]
  walk_at "wl"
  refine sp_table_in ?_
  rw [Tb.e]
  refine ⟨_, rfl, ?_⟩
  walk_at "wl"
  refine sp_row_put ?_
  walk_at "wl"
  refine ⟨by rw [List.length_map]; omega, ?_⟩
  have e : PyData.tuple [.str (tab ts t).nm, .int ((tab ts t).nx + 1), .tuple ((tab ts t).rows.map Rw.d ++ [(newRow ts t ld ws tick).d]), .tuple ((tab ts t).ix.map .int)] = (putTb ts t ld ws tick).d := by
    rw [Tb.e]
    show _ = PyData.tuple [_, _, .tuple (((tab ts t).rows ++ [_]).map Rw.d), _]
    rw [List.map_append]
    rfl
  rw [e]
  refine sp_with_table g (by omega) (put_g g j h0) ?_
  walk_at "wl"
  exact h
def insI : List Int → Int → List Int
  | [], k => [k]
  | i :: is, k => if i < k then i :: insI is k else if i = k then i :: is else k :: i :: is
theorem insI_mem {k j : Int} : ∀ {is : List Int}, j ∈ insI is k ↔ j = k ∨ j ∈ is
  | [] => by simp [insI]
  | i :: is => by
    unfold insI
    split
    · rw [List.mem_cons, insI_mem, List.mem_cons]
      constructor
      · rintro (h | h | h) <;> simp [h]
      · rintro (h | h | h) <;> simp [h]
    · split
      · rename_i e
        subst e
        rw [List.mem_cons]
        constructor
        · exact .inr
        · rintro (h | h)
          · exact .inl h
          · exact h
      · rw [List.mem_cons]
theorem insI_pw {k : Int} : ∀ {is : List Int}, is.Pairwise (· < ·) → (insI is k).Pairwise (· < ·)
  | [], _ => List.pairwise_singleton _ _
  | i :: is, h => by
    have h0 := h
    rw [List.pairwise_cons] at h
    unfold insI
    split
    · rw [List.pairwise_cons]
      refine ⟨fun j hj => ?_, insI_pw h.2⟩
      rcases insI_mem.mp hj with e | e
      · rw [e]; assumption
      · exact h.1 j e
    · split
      · exact h0
      · rw [List.pairwise_cons]
        refine ⟨fun j hj => ?_, h0⟩
        rcases List.mem_cons.mp hj with e | e
        · rw [e]; omega
        · have := h.1 j e; omega
theorem insI_len {k : Int} : ∀ {is : List Int}, (insI is k).length ≤ is.length + 1
  | [] => Nat.le_refl _
  | i :: is => by
    unfold insI
    split
    · simp only [List.length_cons]; have := insI_len (k := k) (is := is); omega
    · split <;> simp
def ixTb (ts : List Tb) (t : Str) (k : Nat) : Tb := { tab ts t with ix := insI (tab ts t).ix k }
theorem ix_g {N : Nat} {ts : List Tb} (g : GSt N ts) {t : Str} {k : Nat} (w : IsW t) : GTb (N + 1) (ixTb ts t k) := by
  have gt := tab_g g w
  refine ⟨gt.nm, gt.n0, gt.gr, gt.ri, gt.lt, Nat.le_succ_of_le gt.rl, fun j hj => ?_, insI_pw gt.xr, Nat.le_trans insI_len (Nat.succ_le_succ gt.il)⟩
  rcases insI_mem.mp hj with e | e
  · rw [e]; omega
  · exact gt.ix j e
theorem sp_index_done {N : Nat} {ts : List Tb} (g : GSt N ts) (hN : N ≤ 50) {t : Str} {k : Nat} (w : IsW t) {Q : SV → Prop} (h : Q (.v (.tuple [storeD (insT ts (ixTb ts t k)), .bool true]))) :
    m_index_done [.v (storeD ts), .v (Jb.index t k).d] Q := by
  rw [e_index_done]
  unfold b_index_done_1
  have gt := tab_g g w
  have il := gt.il
  have hs : 100000 ≤ sizeLine := by rw [sizeLine_eq]; decide
  walk_at "wl"
  refine jb1 ?_
  simp only [Jb.t]
  walk_at "wl"
  refine sp_table_in ?_
  rw [Tb.e]
  refine ⟨_, rfl, ?_⟩
  unfold b_index_done_0 Jb.d
  walk_at "wl"
  refine at2 ?_
  walk_at "wl"
  refine ⟨by rw [List.length_map]; omega, ?_⟩
  refine ⟨(tab ts t).ix ++ [(k : Int)], by rw [List.map_append]; rfl, by rw [List.length_append]; show _ + 1 < 64; omega, fun ms im => ?_⟩
  have e : ms = insI (tab ts t).ix k := im.uniq ⟨insI_pw gt.xr, fun j => by rw [insI_mem, List.mem_append, List.mem_singleton]; exact Or.comm⟩
  subst e
  walk_at "wl"
  have e : PyData.tuple [.str (tab ts t).nm, .int (tab ts t).nx, .tuple ((tab ts t).rows.map Rw.d), .tuple ((insI (tab ts t).ix k).map .int)] = (ixTb ts t k).d := by
    rw [Tb.e]
    rfl
  rw [e]
  refine sp_with_table g (by omega) (ix_g g w) ?_
  walk_at "wl"
  exact h
theorem row_ne {a b : Rw} (h : a.i ≠ b.i) : PyData.eqv a.d b.d = false := by
  rw [Rw.e, Rw.e]
  simp only [PyData.eqv, PyData.eqvAll]
  rw [beq_false_of_ne h]
  rfl
theorem rows_split {rs : List Rw} (ri : Rising rs) {n : Int} {r : Rw} (e : rs.find? (fun r => decide (r.i = n)) = some r) :
    ∃ j, rs[j]? = some r ∧ r.i = n ∧ (∀ (m : Nat) (q : Rw), m < j → rs[m]? = some q → q.i ≠ n) ∧ rs.filter (fun r => !decide (r.i = n)) = rs.take j ++ rs.drop (j + 1) ∧
      ∀ f : Rw → Rw, rs.map (fun r => if r.i = n then f r else r) = rs.take j ++ f r :: rs.drop (j + 1) := by
  induction rs with
  | nil => cases e
  | cons a rs ih =>
    replace ri := List.pairwise_cons.mp ri
    rw [List.find?_cons] at e
    by_cases h : a.i = n
    · rw [decide_eq_true h] at e
      have e := Option.some.inj e
      subst e
      have no : ∀ q ∈ rs, q.i ≠ n := fun q hq z => by
        have := ri.1 q hq
        omega
      refine ⟨0, rfl, h, fun m q hm => absurd hm (Nat.not_lt_zero m), ?_, fun f => ?_⟩
      · rw [List.filter_cons, decide_eq_true h]
        show rs.filter _ = rs
        rw [List.filter_eq_self]
        intro q hq
        rw [decide_eq_false (no q hq)]
        rfl
      · rw [List.map_cons, if_pos h]
        show f a :: _ = f a :: rs
        congr 1
        conv => rhs; rw [← List.map_id rs]
        exact List.map_congr_left fun q hq => if_neg (no q hq)
    · rw [decide_eq_false h] at e
      obtain ⟨j, e1, e2, e3, e4, e5⟩ := ih ri.2 e
      refine ⟨j + 1, by simpa using e1, e2, fun m q hm hq => ?_, ?_, fun f => ?_⟩
      · cases m with
        | zero => cases hq; exact h
        | succ m => exact e3 m q (by omega) (by simpa using hq)
      · rw [List.filter_cons, decide_eq_false h]
        show a :: rs.filter _ = a :: (rs.take j ++ rs.drop (j + 1))
        rw [e4]
      · rw [List.map_cons, if_neg h, e5 f]
        rfl
theorem turn_i {r : Rw} {k : Nat} {v : Vl} : (turn r k v).i = r.i := by unfold turn; split <;> rfl
theorem turn_g {r : Rw} (g : GRw r) {k : Nat} {v : Vl} (hv : OV v) : GRw (turn r k v) := by
  unfold turn
  split
  · refine ⟨g.i0, g.ld, g.b0, fun w hw => ?_, ?_⟩
    · rcases List.mem_append.mp hw with h | h
      · exact g.ws w (List.mem_of_mem_take h)
      · rcases List.mem_cons.mp h with h | h
        · rw [h]; exact hv
        · exact g.ws w (List.mem_of_mem_drop h)
    · show (r.ws.take k ++ v :: r.ws.drop (k + 1)).length ≤ 1000
      have := g.wn
      simp only [List.length_append, List.length_take, List.length_cons, List.length_drop]
      omega
  · exact g
def dropTb (ts : List Tb) (t : Str) (n : Int) : Tb := { tab ts t with rows := (tab ts t).rows.filter fun r => !decide (r.i = n) }
def setTb (ts : List Tb) (t : Str) (n : Int) (k : Nat) (v : Vl) : Tb := { tab ts t with rows := (tab ts t).rows.map fun r => if r.i = n then turn r k v else r }
theorem drop_g {N : Nat} {ts : List Tb} (g : GSt N ts) {t : Str} {n : Int} (w : IsW t) : GTb N (dropTb ts t n) := by
  have gt := tab_g g w
  exact ⟨gt.nm, gt.n0, fun r hr => gt.gr r (List.mem_filter.mp hr).1, gt.ri.filter _, fun r hr => gt.lt r (List.mem_filter.mp hr).1, Nat.le_trans (List.length_filter_le _ _) gt.rl, gt.ix, gt.xr, gt.il⟩
theorem set_g {N : Nat} {ts : List Tb} (g : GSt N ts) {t : Str} {n : Int} {k : Nat} {v : Vl} (w : IsW t) (hv : OV v) : GTb N (setTb ts t n k v) := by
  have gt := tab_g g w
  have fi : ∀ r : Rw, (if r.i = n then turn r k v else r).i = r.i := fun r => by split <;> first | exact turn_i | rfl
  refine ⟨gt.nm, gt.n0, fun r hr => ?_, ?_, fun r hr => ?_, ?_, gt.ix, gt.xr, gt.il⟩
  · obtain ⟨q, hq, rfl⟩ := List.mem_map.mp hr
    split
    · exact turn_g (gt.gr q hq) hv
    · exact gt.gr q hq
  · show ((tab ts t).rows.map _).Pairwise _
    rw [List.pairwise_map]
    exact gt.ri.imp fun {a b} h => by rw [fi, fi]; exact h
  · obtain ⟨q, hq, rfl⟩ := List.mem_map.mp hr
    rw [fi]
    exact gt.lt q hq
  · show ((tab ts t).rows.map _).length ≤ N
    rw [List.length_map]
    exact gt.rl
/-- the deeds on a row: what it is turned to, what is told -/
def rowDone (ts : List Tb) (r : Rw) : Jb → Option (Tb × PyData)
  | .drop t n => some (dropTb ts t n, .bool true)
  | .set t n k v => some (setTb ts t n k v, v.d)
  | .add t n k m => match r.ws[k]? with
    | some (.num i) => some (setTb ts t n k (.num (m + i)), .int (m + i))
    | _ => none
  | _ => none
theorem row_done_at {rs : List Rw} {r : Rw} {Q : SV → Prop} {j : Nat} {n : Int} (g : ∀ q ∈ rs, GRw q) (e1 : rs[j]? = some r) (e2 : r.i = n) (e3 : ∀ (m : Nat) (q : Rw), m < j → rs[m]? = some q → q.i ≠ n) (h : Q (.v (.int (j : Nat)))) {ρ : VL.Env} {to ty : TV}
    (ht : ∀ K : SV → Prop, K (.v (.tuple (rs.map Rw.d))) → to ρ K) (hy : ∀ K : SV → Prop, K (.v r.d) → ty ρ K) : vTupIx to ty ρ Q := by
  refine ht _ ⟨_, rfl, hy _ ?_⟩
  have gr := g r (List.mem_of_getElem? e1)
  refine ⟨_, j, r.d, rfl, lay_map fun q hq => (g q hq).lay.1, gr.lay.1, Nat.le_trans gr.lay.2 (by decide), by rw [List.getElem?_map, e1]; rfl, eqv_refl _ (Rw.nd r), fun m z hm hz => ?_, h⟩
  rw [List.getElem?_map] at hz
  rcases eq : rs[m]? with _ | q
  · rw [eq] at hz; cases hz
  · rw [eq] at hz
    cases hz
    exact row_ne fun z => e3 m q hm eq (by rw [z]; exact e2)
theorem sp_row_done {N : Nat} {ts : List Tb} (g : GSt N ts) (hN : N ≤ 50) {j : Jb} {n : Int} {r : Rw} {T : Tb} {told : PyData} (gj : GJ j) (hj : (∃ k v, j = .set j.t n k v) ∨ (∃ k m, j = .add j.t n k m) ∨ j = .drop j.t n) (el : lk ts j.t n = some r) (ed : rowDone ts r j = some (T, told)) {Q : SV → Prop}
    (h : Q (.v (.tuple [storeD (insT ts T), told]))) : m_row_done [.v (storeD ts), .v j.d] Q := by
  have w := gj_t gj
  have gt := tab_g g w
  have n0 : 0 ≤ n := by
    rcases hj with ⟨k, v, e⟩ | ⟨k, m, e⟩ | e <;> rw [e] at gj
    · exact gj.2.1
    · exact gj.2
    · exact gj.2
  obtain ⟨jx, e1, e2, e3, e4, e5⟩ := rows_split gt.ri el
  have gr := gt.gr r (List.mem_of_getElem? e1)
  have i2 : ∀ {K : SV → Prop}, K (.v (.int n)) → fIx (.v j.d) (.v (.int 2)) K := fun q => by
    rcases hj with ⟨k, v, e⟩ | ⟨k, m, e⟩ | e <;> rw [e] <;> exact ⟨2, rfl, .inl ⟨_, _, rfl, rfl, q⟩⟩
  have hs : 100000 ≤ sizeLine := by rw [sizeLine_eq]; decide
  have rl := gt.rl
  rw [e_row_done]
  unfold b_row_done_7
  walk_at "wl"
  refine jb1 ?_
  walk_at "wl"
  refine sp_table_in ?_
  rw [Tb.e, tab_nm]
  refine ⟨_, rfl, ?_⟩
  walk_at "wl"
  unfold b_row_done_6
  walk_at "wl"
  refine i2 ?_
  walk_at "wl"
  refine sp_row_of n0 ?_
  rw [el]
  simp only [rwD]
  walk_at "wl"
  unfold b_row_done_5
  show vSeq _ _ _ _
  simp only [s_seq, s_asg]
  refine row_done_at (rs := (tab ts j.t).rows) gt.gr e1 e2 e3 ?_ (fun K k => k) (fun K k => k)
  walk_at "wl"
  unfold b_row_done_4
  walk_at "wl"
  refine jb0 ?_
  walk_at "wl"
  rw [cut_lo, cut_drop1]
  rcases hj with ⟨k, v, ej⟩ | ⟨k, m, ej⟩ | ej
  · obtain ⟨t, rfl⟩ : ∃ t, j = .set t n k v := ⟨_, ej⟩
    simp only [Jb.w, Jb.t] at *
    refine (if_neg (show ¬ _ = true by decide)).mpr ?_
    cases ed
    unfold b_row_done_3 Jb.d
    walk_at "wl"
    refine at3 ?_
    walk_at "wl"
    refine at4 ?_
    walk_at "wl"
    unfold b_row_done_2
    walk_at "wl"
    refine at0 ?_
    walk_at "wl"
    rw [if_neg (by decide)]
    unfold b_row_done_1
    walk_at "wl"
    refine sp_row_turned gr ?_
    walk_at "wl"
    unfold b_row_done_0
    walk_at "wl"
    rw [cut_lo, cut_drop1]
    refine ⟨by simp only [List.length_take, List.length_map]; omega, by simp only [List.length_append, List.length_take, List.length_drop, List.length_map, List.length_cons, List.length_nil]; omega, ?_⟩
    have e : PyData.tuple [.str t, .int (tab ts t).nx, .tuple (((tab ts t).rows.map Rw.d).take jx ++ [(turn r k v).d] ++ ((tab ts t).rows.map Rw.d).drop (jx + 1)), .tuple ((tab ts t).ix.map .int)] = (setTb ts t n k v).d := by
      rw [Tb.e]
      show _ = PyData.tuple [.str (tab ts t).nm, .int (tab ts t).nx, .tuple (((tab ts t).rows.map fun r => if r.i = n then turn r k v else r).map Rw.d), _]
      rw [e5, tab_nm, List.map_append, List.map_cons, List.map_take, List.map_drop, List.append_assoc]
      rfl
    rw [e]
    refine sp_with_table g (by omega) (set_g g w gj.2.2) ?_
    walk_at "wl"
    exact h
  · obtain ⟨t, rfl⟩ : ∃ t, j = .add t n k m := ⟨_, ej⟩
    simp only [Jb.w, Jb.t] at *
    refine (if_neg (show ¬ _ = true by decide)).mpr ?_
    simp only [rowDone] at ed
    obtain ⟨i, ei, ed⟩ : ∃ i, r.ws[k]? = some (.num i) ∧ some (setTb ts t n k (.num (m + i)), PyData.int (m + i)) = some (T, told) := by
      split at ed
      · rename_i i ei; exact ⟨i, ei, ed⟩
      · cases ed
    cases ed
    unfold b_row_done_3 Jb.d
    walk_at "wl"
    refine at3 ?_
    walk_at "wl"
    refine at4 ?_
    walk_at "wl"
    unfold b_row_done_2
    walk_at "wl"
    refine at0 ?_
    walk_at "wl"
    rw [if_pos (by decide)]
    rw [Rw.e]
    walk_at "wl"
    refine at3 ?_
    walk_at "wl"
    refine ⟨_, atI_map ei, ?_⟩
    simp only [Vl.d]
    walk_at "wl"
    rw [← Rw.e]
    unfold b_row_done_1
    walk_at "wl"
    refine sp_row_turned (v := .num (m + i)) gr ?_
    walk_at "wl"
    unfold b_row_done_0
    walk_at "wl"
    rw [cut_lo, cut_drop1]
    refine ⟨by simp only [List.length_take, List.length_map]; omega, by simp only [List.length_append, List.length_take, List.length_drop, List.length_map, List.length_cons, List.length_nil]; omega, ?_⟩
    have e : PyData.tuple [.str t, .int (tab ts t).nx, .tuple (((tab ts t).rows.map Rw.d).take jx ++ [(turn r k (.num (m + i))).d] ++ ((tab ts t).rows.map Rw.d).drop (jx + 1)), .tuple ((tab ts t).ix.map .int)] = (setTb ts t n k (.num (m + i))).d := by
      rw [Tb.e]
      show _ = PyData.tuple [.str (tab ts t).nm, .int (tab ts t).nx, .tuple (((tab ts t).rows.map fun r => if r.i = n then turn r k (.num (m + i)) else r).map Rw.d), _]
      rw [e5, tab_nm, List.map_append, List.map_cons, List.map_take, List.map_drop, List.append_assoc]
      rfl
    rw [e]
    refine sp_with_table g (by omega) (set_g (v := .num (m + i)) g w trivial) ?_
    walk_at "wl"
    exact h
  · obtain ⟨t, rfl⟩ : ∃ t, j = .drop t n := ⟨_, ej⟩
    simp only [Jb.w, Jb.t] at *
    refine (if_pos (by decide)).mpr ?_
    cases ed
    refine ⟨by simp only [List.length_take, List.length_drop, List.length_map]; omega, ?_⟩
    have e : PyData.tuple [.str t, .int (tab ts t).nx, .tuple (((tab ts t).rows.map Rw.d).take jx ++ ((tab ts t).rows.map Rw.d).drop (jx + 1)), .tuple ((tab ts t).ix.map .int)] = (dropTb ts t n).d := by
      rw [Tb.e]
      show _ = PyData.tuple [.str (tab ts t).nm, .int (tab ts t).nx, .tuple (((tab ts t).rows.filter fun r => !decide (r.i = n)).map Rw.d), _]
      rw [e4, tab_nm, List.map_append, List.map_take, List.map_drop]
      rfl
    rw [e]
    refine sp_with_table g (by omega) (drop_g g w) ?_
    walk_at "wl"
    exact h
/-! ### asks -/
theorem sp_fits {kd : Str} {tf : TF} {d : PyData} (e : sFind fs_CHECKS kd = some tf) (h : ∀ K : SV → Prop, K (.v (.bool true)) → tf [.v d] K) {Q : SV → Prop} (q : Q (.v (.bool true))) : m_fits [.v (.str kd), .v d] Q := by
  unfold m_fits t_fits
  walk_at "wl"
  exact ⟨_, e, h _ ⟨_, rfl, q⟩⟩
theorem zip_map {α : Type} {f g : α → PyData} {l : List α} : zipD (l.map f) (l.map g) = l.map fun a => .tuple [f a, g a] := by
  unfold zipD
  induction l with
  | nil => rfl
  | cons a l ih => simp only [List.map_cons, List.zip_cons_cons]; rw [ih]
theorem sp_parts {ps : List (Str × PyData)} (h : ∀ p ∈ ps, ∀ K : SV → Prop, K (.v (.bool true)) → m_fits [.v (.str p.1), .v p.2] K) (hl : ps.length ≤ 1000) {Q : SV → Prop} (q : Q (.v (.bool true))) :
    m_are_parts [.v (.tuple (ps.map (·.2))), .v (.tuple (ps.map fun p => .str p.1))] Q := by
  unfold m_are_parts t_are_parts
  walk_at "wl"
  rw [List.length_map, List.length_map]
  refine (if_pos (by simp)).mpr ?_
  refine ⟨_, _, .inl rfl, ?_⟩
  rw [zip_map]
  refine cloop_all (fun p : Str × PyData => PyData.tuple [.str p.1, p.2]) (fun _ => .bool true) (fun p hp K1 k1 => ?_) (by omega) ?_
  · walk_at "wl"
    refine h p hp _ ?_
    exact ⟨_, rfl, k1⟩
  · refine all_bools (as := ps) (p := fun _ => true) rfl ?_
    rw [show (List.all _ fun _ => true) = true from List.all_eq_true.mpr fun _ _ => rfl]
    exact ⟨_, rfl, q⟩
def isAskB : Jb → Bool
  | .rows _ _ _ => true
  | .count _ _ => true
  | .sum _ _ _ => true
  | .get _ _ => true
  | .follow _ _ _ => true
  | _ => false
theorem GC.lay {c : Cd} (g : GC c) : c.d.canLay0 = true ∧ c.d.depth ≤ 2 := by
  unfold Cd.d
  have h1 : (PyData.str c.sg).canLay0 = true := by rcases g.sg with e | e | e <;> rw [e] <;> decide +kernel
  have h2 := g.v.lay
  refine ⟨?_, ?_⟩
  · simp only [PyData.canLay0] at h1 ⊢
    simp only [PyData.canLayAll0, PyData.canLay0, h1, h2.1, Bool.and_self]
  · simp only [PyData.depth, PyData.depthAll]
    have := h2.2.1
    omega
theorem conds_lay {cs : List Cd} (g : ∀ c ∈ cs, GC c) : (condsD cs).canLay0 = true ∧ (condsD cs).depth ≤ 3 := by
  unfold condsD
  have h1 : PyData.canLayAll0 (cs.map Cd.d) = true := lay_map fun c hc => (g c hc).lay.1
  have h2 : PyData.depthAll (cs.map Cd.d) ≤ 2 := dep_map fun c hc => (g c hc).lay.2
  exact ⟨by simp only [PyData.canLay0]; exact h1, by simp only [PyData.depth]; omega⟩
theorem ws_lay {ws : List Vl} (g : ∀ w ∈ ws, OV w) : (PyData.tuple (ws.map Vl.d)).canLay0 = true ∧ (PyData.tuple (ws.map Vl.d)).depth ≤ 2 := by
  have h1 : PyData.canLayAll0 (ws.map Vl.d) = true := lay_map fun c hc => (g c hc).lay.1
  have h2 : PyData.depthAll (ws.map Vl.d) ≤ 1 := dep_map fun c hc => (g c hc).lay.2.1
  exact ⟨by simp only [PyData.canLay0]; exact h1, by simp only [PyData.depth]; omega⟩
theorem shaped_of {d : PyData} (h : d.canLay0 = true ∧ d.depth ≤ 64) : SeqAt.shaped d = true := by
  unfold SeqAt.shaped
  rw [h.1, decide_eq_true h.2]
  rfl
theorem tup_lay {ds : List PyData} {n : Nat} (h : ∀ d ∈ ds, d.canLay0 = true ∧ d.depth ≤ n) : (PyData.tuple ds).canLay0 = true ∧ (PyData.tuple ds).depth ≤ n + 1 := by
  have h1 : PyData.canLayAll0 ds = true := by have := lay_map (f := id) (l := ds) fun d hd => (h d hd).1; rwa [List.map_id] at this
  have h2 : PyData.depthAll ds ≤ n := by have := dep_map (f := id) (l := ds) fun d hd => (h d hd).2; rwa [List.map_id] at this
  exact ⟨by simp only [PyData.canLay0]; exact h1, by simp only [PyData.depth]; omega⟩
theorem str_lay {t : Str} (h : strG t = true) {n : Nat} : (PyData.str t).canLay0 = true ∧ (PyData.str t).depth ≤ n := ⟨lay_str h, by simp [PyData.depth]⟩
theorem int_lay {i : Int} {n : Nat} : (PyData.int i).canLay0 = true ∧ (PyData.int i).depth ≤ n := ⟨rfl, by simp [PyData.depth]⟩
theorem le_lay {d : PyData} {m n : Nat} (h : d.canLay0 = true ∧ d.depth ≤ m) (hm : m ≤ n) : d.canLay0 = true ∧ d.depth ≤ n := ⟨h.1, Nat.le_trans h.2 hm⟩
theorem all_cons {P : PyData → Prop} {d : PyData} {ds : List PyData} (h : P d) (h2 : ∀ e ∈ ds, P e) : ∀ e ∈ d :: ds, P e := fun e he => by
  rcases List.mem_cons.mp he with z | z
  · rw [z]; exact h
  · exact h2 e z
theorem all_nil {P : PyData → Prop} : ∀ e ∈ ([] : List PyData), P e := fun e he => absurd he (List.not_mem_nil)
theorem job_lay {j : Jb} (g : GJ j) : j.d.canLay0 = true ∧ j.d.depth ≤ 4 := by
  have w := str_lay (n := 3) (gj_t g).strG
  have hw : ∀ x : Str, strG x = true → (PyData.str x).canLay0 = true ∧ (PyData.str x).depth ≤ 3 := fun x h => str_lay h
  cases j with
  | put t ld ws => exact tup_lay (all_cons (hw _ (by decide +kernel)) (all_cons w (all_cons (hw _ g.2.1.strG) (all_cons (le_lay (ws_lay g.2.2.1) (by decide)) all_nil))))
  | set t n k v => exact tup_lay (all_cons (hw _ (by decide +kernel)) (all_cons w (all_cons int_lay (all_cons int_lay (all_cons (le_lay ⟨g.2.2.lay.1, g.2.2.lay.2.1⟩ (by decide)) all_nil)))))
  | add t n k m => exact tup_lay (all_cons (hw _ (by decide +kernel)) (all_cons w (all_cons int_lay (all_cons int_lay (all_cons int_lay all_nil)))))
  | drop t n => exact tup_lay (all_cons (hw _ (by decide +kernel)) (all_cons w (all_cons int_lay all_nil)))
  | index t k => exact tup_lay (all_cons (hw _ (by decide +kernel)) (all_cons w (all_cons int_lay all_nil)))
  | rows t cs m => exact tup_lay (all_cons (hw _ (by decide +kernel)) (all_cons w (all_cons (conds_lay g.2.1) (all_cons int_lay all_nil))))
  | count t cs => exact tup_lay (all_cons (hw _ (by decide +kernel)) (all_cons w (all_cons (conds_lay g.2.1) all_nil)))
  | sum t k cs => exact tup_lay (all_cons (hw _ (by decide +kernel)) (all_cons w (all_cons int_lay (all_cons (conds_lay g.2.1) all_nil))))
  | get t n => exact tup_lay (all_cons (hw _ (by decide +kernel)) (all_cons w (all_cons int_lay all_nil)))
  | follow t n k => exact tup_lay (all_cons (hw _ (by decide +kernel)) (all_cons w (all_cons int_lay (all_cons int_lay all_nil))))
theorem sp_begins {w : Str} {xs : List PyData} (hl : SeqAt.shaped (.tuple (.str w :: xs)) = true) {Q : SV → Prop} (h : Q (.v (.bool true))) : m_begins_with_text [.v (.tuple (.str w :: xs))] Q := by
  unfold m_begins_with_text t_begins_with_text
  walk_at "wl"
  refine ⟨_, _, rfl, rfl, hl, by decide +kernel, ?_⟩
  simp only [PyData.eqv, PyData.eqvAll]
  refine ⟨_, rfl, (if_pos (by rfl)).mpr ?_⟩
  refine at0 ?_
  exact h
theorem ft_table {t : Str} (h : IsW t) : ∀ K : SV → Prop, K (.v (.bool true)) → m_fits [.v (.str "table"), .v (.str t)] K := fun K k => sp_fits (tf := m_is_word) (by rfl) (fun _ q => sp_is_word h q) k
theorem ft_num {kd : Str} (e : sFind fs_CHECKS kd = some m_is_number) {n : Int} (h : 0 ≤ n) : ∀ K : SV → Prop, K (.v (.bool true)) → m_fits [.v (.str kd), .v (.int n)] K := fun K k => sp_fits (tf := m_is_number) e (fun _ q => sp_is_number (by rw [decide_eq_true h]; exact q)) k
theorem ft_conds {cs : List Cd} (h : ∀ c ∈ cs, GC c) (hl : cs.length ≤ 1000) : ∀ K : SV → Prop, K (.v (.bool true)) → m_fits [.v (.str "conds"), .v (condsD cs)] K := fun K k => sp_fits (tf := m_are_conds) (by rfl) (fun _ q => sp_are_conds h (by omega) q) k
theorem mem2 {α : Type} {P : α → Prop} {a b : α} (h1 : P a) (h2 : P b) : ∀ x ∈ [a, b], P x := fun x hx => by
  simp only [List.mem_cons, List.not_mem_nil, or_false] at hx
  rcases hx with rfl | rfl <;> assumption
theorem mem3 {α : Type} {P : α → Prop} {a b c : α} (h1 : P a) (h2 : P b) (h3 : P c) : ∀ x ∈ [a, b, c], P x := fun x hx => by
  simp only [List.mem_cons, List.not_mem_nil, or_false] at hx
  rcases hx with rfl | rfl | rfl <;> assumption
theorem ask_go {w : Str} {xs : List PyData} {ps : List (Str × PyData)} (hl : SeqAt.shaped (.tuple (.str w :: xs)) = true) (e : sFind kds_ASKS w = some (.tuple (ps.map fun p => .str p.1))) (ex : xs = ps.map (·.2))
    (h : ∀ p ∈ ps, ∀ K : SV → Prop, K (.v (.bool true)) → m_fits [.v (.str p.1), .v p.2] K) (pl : ps.length ≤ 1000) {Q : SV → Prop} (q : Q (.v (.bool true))) : m_is_ask [.v (.tuple (.str w :: xs))] Q := by
  unfold m_is_ask t_is_ask
  walk_at "wl"
  refine sp_begins hl ?_
  refine ⟨_, rfl, (if_pos rfl).mpr ?_⟩
  refine at0 ?_
  walk_at "wl"
  rw [e]
  refine (if_pos (by rfl)).mpr ?_
  refine at0 ?_
  refine ⟨_, _, rfl, e, ?_⟩
  rw [show VL.cutD (PyData.str w :: xs) (some 1) none = xs from cut_hi (k := 1), ex]
  refine sp_parts h pl ?_
  exact ⟨_, rfl, q⟩
theorem ask_no {w : Str} {xs : List PyData} (hl : SeqAt.shaped (.tuple (.str w :: xs)) = true) (e : sFind kds_ASKS w = none) {Q : SV → Prop} (q : Q (.v (.bool false))) : m_is_ask [.v (.tuple (.str w :: xs))] Q := by
  unfold m_is_ask t_is_ask
  walk_at "wl"
  refine sp_begins hl ?_
  refine ⟨_, rfl, (if_pos rfl).mpr ?_⟩
  refine at0 ?_
  walk_at "wl"
  rw [e]
  exact (if_neg (show ¬ false = true from Bool.false_ne_true)).mpr q
theorem sp_is_ask {j : Jb} (g : GJ j) {Q : SV → Prop} (h : Q (.v (.bool (isAskB j)))) : m_is_ask [.v j.d] Q := by
  have sh := shaped_of (le_lay (job_lay g) (show 4 ≤ 64 by decide))
  cases j with
  | put t ld ws => exact ask_no sh (by decide +kernel) h
  | set t n k v => exact ask_no sh (by decide +kernel) h
  | add t n k m => exact ask_no sh (by decide +kernel) h
  | drop t n => exact ask_no sh (by decide +kernel) h
  | index t k => exact ask_no sh (by decide +kernel) h
  | rows t cs m => exact ask_go (ps := [("table", .str t), ("conds", condsD cs), ("most", .int m)]) sh (by rfl) rfl (mem3 (ft_table g.1) (ft_conds g.2.1 g.2.2) (ft_num (by rfl) (Int.natCast_nonneg _))) (by simp) h
  | count t cs => exact ask_go (ps := [("table", .str t), ("conds", condsD cs)]) sh (by rfl) rfl (mem2 (ft_table g.1) (ft_conds g.2.1 g.2.2)) (by simp) h
  | sum t k cs => exact ask_go (ps := [("table", .str t), ("k", .int k), ("conds", condsD cs)]) sh (by rfl) rfl (mem3 (ft_table g.1) (ft_num (by rfl) (Int.natCast_nonneg _)) (ft_conds g.2.1 g.2.2)) (by simp) h
  | get t n => exact ask_go (ps := [("table", .str t), ("id", .int n)]) sh (by rfl) rfl (mem2 (ft_table g.1) (ft_num (by rfl) g.2)) (by simp) h
  | follow t n k => exact ask_go (ps := [("table", .str t), ("id", .int n), ("k", .int k)]) sh (by rfl) rfl (mem3 (ft_table g.1) (ft_num (by rfl) g.2) (ft_num (by rfl) (Int.natCast_nonneg _))) (by simp) h
/-! ### refusals -/
def hasWorth (r : Rw) : Jb → Bool
  | .set _ _ k _ => decide (k < r.ws.length)
  | .add _ _ k _ => match r.ws[k]? with | some v => isN v | none => false
  | .follow _ _ k => (lnk r k).isSome
  | _ => true
theorem layGD : PyData.canLayAll0 [.str "get", .str "drop"] = true := by decide +kernel
theorem layRCS : PyData.canLayAll0 [.str "rows", .str "count", .str "sum"] = true := by decide +kernel
theorem jw_lay (j : Jb) : (PyData.str j.w).canLay0 = true := by cases j <;> simp only [Jb.w] <;> decide +kernel
def isLook : Jb → Bool
  | .rows _ _ _ => true
  | .count _ _ => true
  | .sum _ _ _ => true
  | _ => false
theorem sp_looks {j : Jb} {Q : SV → Prop} (h : Q (.v (.bool (isLook j)))) : m_looks [.v j.d] Q := by
  unfold m_looks t_looks
  walk_at "wl"
  refine jb0 ?_
  refine .inr ⟨.str j.w, _, rfl, rfl, jw_lay j, by simp [PyData.depth], layRCS, ?_⟩
  have e : [PyData.str "rows", .str "count", .str "sum"].any (PyData.eqv · (.str j.w)) = isLook j := by cases j <;> simp only [Jb.w, isLook] <;> decide +kernel
  rw [e]
  exact ⟨_, rfl, h⟩
theorem ifn {c : Bool} {a b : Prop} (e : c = false) (h : b) : if c = true then a else b := by rw [e]; exact h
theorem ify {c : Bool} {a b : Prop} (e : c = true) (h : a) : if c = true then a else b := by rw [e]; exact h
theorem ifp {p : Prop} [Decidable p] {a b : Prop} (e : p) (h : a) : if p then a else b := (if_pos e).mpr h
theorem ifq {p : Prop} [Decidable p] {a b : Prop} (e : ¬ p) (h : b) : if p then a else b := (if_neg e).mpr h
theorem isT_ex {b : Bool} {P : Bool → Prop} (h : P b) : ∃ c, SV.v (.bool b) = .v (.bool c) ∧ P c := ⟨b, rfl, h⟩
theorem sp_has_worth {r : Rw} (gr : GRw r) {j : Jb} {n : Int} (gj : GJ j) (hj : (∃ k v, j = .set j.t n k v) ∨ (∃ k m, j = .add j.t n k m) ∨ j = .drop j.t n ∨ j = .get j.t n ∨ (∃ k, j = .follow j.t n k)) {Q : SV → Prop} (h : Q (.v (.bool (hasWorth r j)))) : m_has_worth [.v r.d, .v j.d] Q := by
  rw [e_has_worth]
  unfold b_has_worth_4
  walk_at "wl"
  refine jb0 ?_
  walk_at "wl"
  unfold b_has_worth_3
  walk_at "wl"
  refine .inr ⟨.str j.w, _, rfl, rfl, jw_lay j, by simp [PyData.depth], layGD, ?_⟩
  walk_at "wl"
  rcases hj with ⟨k, v, e⟩ | ⟨k, m, e⟩ | e | e | ⟨k, e⟩
  · obtain ⟨t, rfl⟩ : ∃ t, j = .set t n k v := ⟨_, e⟩
    refine ifn (by simp only [Jb.w]; decide +kernel) ?_
    unfold b_has_worth_2 Jb.d
    rw [Rw.e]
    walk_at "wl"
    refine at3 ?_
    walk_at "wl"
    refine at3 ?_
    walk_at "wl"
    unfold b_has_worth_1
    walk_at "wl"
    refine ifn (by rfl) ?_
    unfold b_has_worth_0
    walk_at "wl"
    simp only [hasWorth] at h
    rw [List.length_map]
    by_cases hk : k < r.ws.length
    · refine ifp (by omega) (ify (by rfl) ?_)
      rw [decide_eq_true hk] at h
      exact h
    · refine ifq (by omega) ?_
      rw [decide_eq_false hk] at h
      exact h
  · obtain ⟨t, rfl⟩ : ∃ t, j = .add t n k m := ⟨_, e⟩
    refine ifn (by simp only [Jb.w]; decide +kernel) ?_
    unfold b_has_worth_2 Jb.d
    rw [Rw.e]
    walk_at "wl"
    refine at3 ?_
    walk_at "wl"
    refine at3 ?_
    walk_at "wl"
    unfold b_has_worth_1
    walk_at "wl"
    refine ifn (by rfl) ?_
    unfold b_has_worth_0
    walk_at "wl"
    simp only [hasWorth] at h
    rw [List.length_map]
    by_cases hk : k < r.ws.length
    · refine ifp (by omega) (ifn (by rfl) ?_)
      obtain ⟨v, ev⟩ : ∃ v, r.ws[k]? = some v := ⟨_, List.getElem?_eq_getElem hk⟩
      rw [ev] at h
      refine ⟨_, atI_map ev, sp_isw ?_⟩
      exact ⟨_, rfl, h⟩
    · refine ifq (by omega) ?_
      rw [List.getElem?_eq_none (by omega)] at h
      exact h
  · obtain ⟨t, rfl⟩ : ∃ t, j = .drop t n := ⟨_, e⟩
    refine ify (by simp only [Jb.w]; decide +kernel) ?_
    exact h
  · obtain ⟨t, rfl⟩ : ∃ t, j = .get t n := ⟨_, e⟩
    refine ify (by simp only [Jb.w]; decide +kernel) ?_
    exact h
  · obtain ⟨t, rfl⟩ : ∃ t, j = .follow t n k := ⟨_, e⟩
    refine ifn (by simp only [Jb.w]; decide +kernel) ?_
    unfold b_has_worth_2 Jb.d
    rw [Rw.e]
    walk_at "wl"
    refine at3 ?_
    walk_at "wl"
    refine at3 ?_
    walk_at "wl"
    unfold b_has_worth_1
    walk_at "wl"
    refine ify (by rfl) ?_
    rw [← Rw.e]
    refine sp_link_at gr ?_
    walk_at "wl"
    rw [m_isN, linkAt_eq]
    simp only [hasWorth] at h
    cases el : lnk r k with
    | none => rw [el] at h; exact ⟨_, rfl, h⟩
    | some p => rw [el] at h; exact ⟨_, rfl, h⟩
def refuse (ts : List Tb) (j : Jb) (tick : Int) (home : Str) (us : List Ru) : Option Str := match j with
  | .index _ _ => none
  | .put t ld ws => if strayD us home (newRow ts t ld ws tick) then some "stay" else none
  | .rows t _ _ => if has ts t then none else some "table"
  | .count t _ => if has ts t then none else some "table"
  | .sum t _ _ => if has ts t then none else some "table"
  | .set t n k v => if has ts t then match lk ts t n with
      | none => some "row"
      | some r => if hasWorth r (.set t n k v) then (if keptD us tick r then some "kept" else none) else some "worth"
    else some "table"
  | .add t n k m => if has ts t then match lk ts t n with
      | none => some "row"
      | some r => if hasWorth r (.add t n k m) then (if keptD us tick r then some "kept" else none) else some "worth"
    else some "table"
  | .drop t n => if has ts t then match lk ts t n with
      | none => some "row"
      | some r => if keptD us tick r then some "kept" else none
    else some "table"
  | .get t n => if has ts t then match lk ts t n with
      | none => some "row"
      | some _ => none
    else some "table"
  | .follow t n k => if has ts t then match lk ts t n with
      | none => some "row"
      | some r => match lnk r k with
        | none => some "worth"
        | some (t2, n2) => if (lk ts t2 n2).isSome then none else some "link"
    else some "table"
def optD : Option Str → PyData
  | none => .none
  | some w => .str w
theorem cutw {j : Jb} : ∃ xs, j.d = .tuple (.str j.w :: .str j.t :: xs) := by cases j <;> exact ⟨_, rfl⟩
theorem new_g {N : Nat} {ts : List Tb} (g : GSt N ts) {t ld : Str} {ws : List Vl} {tick : Int} (j : GJ (.put t ld ws)) (h0 : 0 ≤ tick) : GRw (newRow ts t ld ws tick) :=
  ⟨(tab_g g j.1).n0, j.2.1, h0, j.2.2.1, j.2.2.2⟩
theorem lk_g {N : Nat} {ts : List Tb} (g : GSt N ts) {t : Str} {n : Int} (w : IsW t) {r : Rw} (h : lk ts t n = some r) : GRw r := (tab_g g w).gr r (List.mem_of_find?_eq_some h)
theorem rw_some {r : Rw} : isNoneD (rwD (some r)) = false := rfl
theorem sp_refusal {N : Nat} {ts : List Tb} (g : GSt N ts) (hN : N ≤ 50) {j : Jb} (gj : GJ j) {tick : Int} (h0 : 0 ≤ tick) {home : Str} {us : List Ru} (gu : ∀ u ∈ us, GRu u) {Q : SV → Prop} (h : Q (.v (optD (refuse ts j tick home us)))) :
    m_refusal_of [.v (storeD ts), .v j.d, .v (.int tick), .v (.str home), .v (rulesD us)] Q := by
  rw [e_refusal_of]
  unfold b_refusal_of_9
  obtain ⟨xs, ex⟩ := cutw (j := j)
  have go : b_refusal_of_8 { nx := fun x => Q (SV.v PyData.none), rt := Q, bk := fun x => False, ct := fun x => False } [.v (storeD ts), .v j.d, .v (.int tick), .v (.str home), .v (rulesD us), .un, .v (.str j.w), .v (.str j.t)] := by
    have w := gj_t gj
    have row : ∀ {n : Int}, 0 ≤ n → (∀ K : SV → Prop, K (.v (.int n)) → fIx (.v j.d) (.v (.int 2)) K) → (j.w == Str.ofString "index") = false → (j.w == Str.ofString "put") = false → isLook j = false →
        ((∃ k v, j = .set j.t n k v) ∨ (∃ k m, j = .add j.t n k m) ∨ j = .drop j.t n ∨ j = .get j.t n ∨ (∃ k, j = .follow j.t n k)) →
        (has ts j.t = false → Q (.v (.str "table"))) → (has ts j.t = true → lk ts j.t n = none → Q (.v (.str "row"))) →
        (∀ r, has ts j.t = true → lk ts j.t n = some r → hasWorth r j = false → Q (.v (.str "worth"))) →
        (∀ r, has ts j.t = true → lk ts j.t n = some r → hasWorth r j = true → b_refusal_of_1 { nx := fun x => Q (SV.v PyData.none), rt := Q, bk := fun x => False, ct := fun x => False } [.v (storeD ts), .v j.d, .v (.int tick), .v (.str home), .v (rulesD us), .v r.d, .v (.str j.w), .v (.str j.t)]) →
        b_refusal_of_8 { nx := fun x => Q (SV.v PyData.none), rt := Q, bk := fun x => False, ct := fun x => False } [.v (storeD ts), .v j.d, .v (.int tick), .v (.str home), .v (rulesD us), .un, .v (.str j.w), .v (.str j.t)] := by
      intro n n0 i2 n1 n2 n3 hj k1 k2 k3 k4
      unfold b_refusal_of_8
      walk_at "wl"
      refine ifn n1 ?_
      unfold b_refusal_of_7
      walk_at "wl"
      refine ifn n2 ?_
      unfold b_refusal_of_6
      walk_at "wl"
      refine sp_has_table g (by omega) w ?_
      walk_at "wl"
      by_cases ht : has ts j.t = true
      · refine ifq (by rw [ht]; simp) ?_
        unfold b_refusal_of_5
        walk_at "wl"
        refine sp_looks ?_
        walk_at "wl"
        rw [n3]
        refine ifq Bool.false_ne_true ?_
        unfold b_refusal_of_4
        walk_at "wl"
        refine i2 _ ?_
        walk_at "wl"
        refine sp_row_of n0 ?_
        walk_at "wl"
        unfold b_refusal_of_3
        walk_at "wl"
        rw [m_isN]
        refine ⟨_, rfl, ?_⟩
        cases el : lk ts j.t n with
        | none => exact ify rfl (k2 ht el)
        | some r =>
          refine ifn rfl ?_
          unfold b_refusal_of_2
          simp only [rwD]
          walk_at "wl"
          refine sp_has_worth (lk_g g w el) gj hj ?_
          walk_at "wl"
          by_cases hw : hasWorth r j = true
          · exact ifq (by rw [hw]; simp) (k4 r ht el hw)
          · rw [Bool.not_eq_true] at hw
            exact ifp hw (k3 r ht el hw)
      · rw [Bool.not_eq_true] at ht
        exact ifp ht (k1 ht)
    have look : (j.w == Str.ofString "index") = false → (j.w == Str.ofString "put") = false → isLook j = true → (has ts j.t = false → Q (.v (.str "table"))) → (has ts j.t = true → Q (.v .none)) →
        b_refusal_of_8 { nx := fun x => Q (SV.v PyData.none), rt := Q, bk := fun x => False, ct := fun x => False } [.v (storeD ts), .v j.d, .v (.int tick), .v (.str home), .v (rulesD us), .un, .v (.str j.w), .v (.str j.t)] := by
      intro n1 n2 n3 k1 k2
      unfold b_refusal_of_8
      walk_at "wl"
      refine ifn n1 ?_
      unfold b_refusal_of_7
      walk_at "wl"
      refine ifn n2 ?_
      unfold b_refusal_of_6
      walk_at "wl"
      refine sp_has_table g (by omega) w ?_
      walk_at "wl"
      by_cases ht : has ts j.t = true
      · refine ifq (by rw [ht]; simp) ?_
        unfold b_refusal_of_5
        walk_at "wl"
        refine sp_looks ?_
        walk_at "wl"
        rw [n3]
        exact ifp rfl (k2 ht)
      · rw [Bool.not_eq_true] at ht
        exact ifp ht (k1 ht)
    have kept : ∀ {r : Rw}, GRw r → (j.w == Str.ofString "follow") = false → (j.w == Str.ofString "get") = false → Q (.v (optD (if keptD us tick r then some "kept" else none))) →
        b_refusal_of_1 { nx := fun x => Q (SV.v PyData.none), rt := Q, bk := fun x => False, ct := fun x => False } [.v (storeD ts), .v j.d, .v (.int tick), .v (.str home), .v (rulesD us), .v r.d, .v (.str j.w), .v (.str j.t)] := by
      intro r gr n1 n2 k
      unfold b_refusal_of_1
      walk_at "wl"
      refine ifn n1 ?_
      unfold b_refusal_of_0
      walk_at "wl"
      refine ifp (by rw [n2]) ?_
      refine sp_is_kept gu gr ?_
      refine ⟨_, rfl, ?_⟩
      cases ek : keptD us tick r with
      | true => rw [ek] at k; exact ify rfl k
      | false => rw [ek] at k; exact ifn rfl k
    cases j with
    | index t k =>
      unfold b_refusal_of_8
      walk_at "wl"
      exact ify (by rfl) h
    | put t ld ws =>
      unfold b_refusal_of_8
      walk_at "wl"
      refine ifn (by rfl) ?_
      unfold b_refusal_of_7
      walk_at "wl"
      refine ify (by rfl) ?_
      refine sp_row_put ?_
      walk_at "wl"
      refine sp_is_stray gu (new_g g gj h0) ?_
      refine ⟨_, rfl, ?_⟩
      simp only [refuse] at h
      cases es : strayD us home (newRow ts t ld ws tick) with
      | true => rw [es] at h; exact ify rfl h
      | false => rw [es] at h; exact ifn rfl h
    | rows t cs m =>
      simp only [refuse] at h
      exact look (by rfl) (by rfl) rfl (fun e => by simp only [Jb.t] at e; rw [e] at h; exact h) fun e => by simp only [Jb.t] at e; rw [e] at h; exact h
    | count t cs =>
      simp only [refuse] at h
      exact look (by rfl) (by rfl) rfl (fun e => by simp only [Jb.t] at e; rw [e] at h; exact h) fun e => by simp only [Jb.t] at e; rw [e] at h; exact h
    | sum t k cs =>
      simp only [refuse] at h
      exact look (by rfl) (by rfl) rfl (fun e => by simp only [Jb.t] at e; rw [e] at h; exact h) fun e => by simp only [Jb.t] at e; rw [e] at h; exact h
    | set t n k v =>
      simp only [refuse] at h
      refine row (n := n) gj.2.1 (fun K q => ⟨2, rfl, .inl ⟨_, _, rfl, rfl, q⟩⟩) (by rfl) (by rfl) rfl (.inl ⟨k, v, rfl⟩) (fun e => ?_) (fun e el => ?_) (fun r e el ew => ?_) fun r e el ew => ?_
      all_goals simp only [Jb.t] at *
      all_goals rw [e] at h
      · exact h
      · rw [el] at h; exact h
      · rw [el] at h; simp only [ew] at h; exact h
      · rw [el] at h; simp only [ew] at h; exact kept (lk_g g w el) (by rfl) (by rfl) h
    | add t n k m =>
      simp only [refuse] at h
      refine row (n := n) gj.2 (fun K q => ⟨2, rfl, .inl ⟨_, _, rfl, rfl, q⟩⟩) (by rfl) (by rfl) rfl (.inr (.inl ⟨k, m, rfl⟩)) (fun e => ?_) (fun e el => ?_) (fun r e el ew => ?_) fun r e el ew => ?_
      all_goals simp only [Jb.t] at *
      all_goals rw [e] at h
      · exact h
      · rw [el] at h; exact h
      · rw [el] at h; simp only [ew] at h; exact h
      · rw [el] at h; simp only [ew] at h; exact kept (lk_g g w el) (by rfl) (by rfl) h
    | drop t n =>
      simp only [refuse] at h
      refine row (n := n) gj.2 (fun K q => ⟨2, rfl, .inl ⟨_, _, rfl, rfl, q⟩⟩) (by rfl) (by rfl) rfl (.inr (.inr (.inl rfl))) (fun e => ?_) (fun e el => ?_) (fun r e el ew => ?_) fun r e el ew => ?_
      all_goals simp only [Jb.t] at *
      all_goals rw [e] at h
      · exact h
      · rw [el] at h; exact h
      · cases ew
      · rw [el] at h; exact kept (lk_g g w el) (by rfl) (by rfl) h
    | get t n =>
      simp only [refuse] at h
      refine row (n := n) gj.2 (fun K q => ⟨2, rfl, .inl ⟨_, _, rfl, rfl, q⟩⟩) (by rfl) (by rfl) rfl (.inr (.inr (.inr (.inl rfl)))) (fun e => ?_) (fun e el => ?_) (fun r e el ew => ?_) fun r e el ew => ?_
      all_goals simp only [Jb.t] at *
      all_goals rw [e] at h
      · exact h
      · rw [el] at h; exact h
      · cases ew
      · rw [el] at h
        unfold b_refusal_of_1
        walk_at "wl"
        refine ifn (by rfl) ?_
        unfold b_refusal_of_0
        walk_at "wl"
        exact ifq (by simp only [Jb.w]; decide) h
    | follow t n k =>
      simp only [refuse] at h
      refine row (n := n) gj.2 (fun K q => ⟨2, rfl, .inl ⟨_, _, rfl, rfl, q⟩⟩) (by rfl) (by rfl) rfl (.inr (.inr (.inr (.inr ⟨k, rfl⟩)))) (fun e => ?_) (fun e el => ?_) (fun r e el ew => ?_) fun r e el ew => ?_
      all_goals simp only [Jb.t] at *
      all_goals rw [e] at h
      · exact h
      · rw [el] at h; exact h
      · rw [el] at h
        simp only [hasWorth] at ew
        cases en : lnk r k with
        | none => simp only [en] at h; exact h
        | some p => rw [en] at ew; cases ew
      · rw [el] at h
        simp only [hasWorth] at ew
        cases en : lnk r k with
        | none => rw [en] at ew; cases ew
        | some p =>
          obtain ⟨t2, n2⟩ := p
          simp only [en] at h
          unfold b_refusal_of_1
          walk_at "wl"
          refine ify (by rfl) ?_
          unfold Jb.d
          walk_at "wl"
          refine at3 ?_
          walk_at "wl"
          refine sp_row_linked (lk_g g w el) en ?_
          walk_at "wl"
          rw [m_isN]
          refine ⟨_, rfl, ?_⟩
          cases e2 : lk ts t2 n2 with
          | none => rw [e2] at h; exact ify rfl h
          | some q => rw [e2] at h; exact ifn rfl h
  rw [ex] at go ⊢
  walk_at "wl"
  rw [show VL.cutD (.str j.w :: .str j.t :: xs) none (some 2) = [.str j.w, .str j.t] from cut_lo (k := 2)]
  walk_at "wl"
  exact go
/-! ### answers -/
def met (rs : List Rw) (cs : List Cd) : List Rw := rs.filter fun r => cs.all (metC r.ws)
def numAt (k : Nat) (r : Rw) : Option Int := match r.ws[k]? with
  | some (.num i) => some i
  | _ => none
def ansD (ts : List Tb) : Jb → PyData
  | .rows t cs m => .tuple (((met (tab ts t).rows cs).take m).map fun r => .int r.i)
  | .count t cs => .int ((met (tab ts t).rows cs).length : Nat)
  | .sum t k cs => .int (((met (tab ts t).rows cs).filterMap (numAt k)).sum)
  | .get t n => match lk ts t n with
    | some r => .tuple (r.ws.map Vl.d)
    | none => .none
  | .follow t n k => match lk ts t n with
    | some r => match lnk r k with
      | some (t2, n2) => match lk ts t2 n2 with
        | some q => .tuple (q.ws.map Vl.d)
        | none => .none
      | none => .none
    | none => .none
  | _ => .none
def condsJ : Jb → List Cd
  | .rows _ cs _ => cs
  | .count _ cs => cs
  | .sum _ _ cs => cs
  | _ => []
def rowsJ (rs : List Rw) : Jb → PyData
  | .rows _ cs m => .tuple (((met rs cs).take m).map fun r => .int r.i)
  | .count _ cs => .int ((met rs cs).length : Nat)
  | .sum _ k cs => .int (((met rs cs).filterMap (numAt k)).sum)
  | _ => .none
theorem sp_conds_of {j : Jb} (hl : isLook j = true) {Q : SV → Prop} (h : Q (.v (condsD (condsJ j)))) : m_conds_of [.v j.d] Q := by
  unfold m_conds_of t_conds_of
  walk_at "wl"
  refine jb0 ?_
  walk_at "wl"
  cases j with
  | rows t cs m =>
    refine ifn (by rfl) ?_
    exact ⟨2, rfl, .inl ⟨_, _, rfl, rfl, _, rfl, h⟩⟩
  | count t cs =>
    refine ifn (by rfl) ?_
    exact ⟨2, rfl, .inl ⟨_, _, rfl, rfl, _, rfl, h⟩⟩
  | sum t k cs =>
    refine ify (by rfl) ?_
    exact ⟨3, rfl, .inl ⟨_, _, rfl, rfl, _, rfl, h⟩⟩
  | _ => cases hl
theorem sp_answer_by {rs : List Rw} {j : Jb} (gr : ∀ r ∈ rs, GRw r) (rl : rs.length ≤ 1000) (gj : GJ j) (hl : isLook j = true) {Q : SV → Prop} (h : Q (.v (rowsJ rs j))) : m_answer_by [.v (.tuple (rs.map Rw.d)), .v j.d] Q := by
  have gc : ∀ c ∈ condsJ j, GC c := by
    cases j <;> first | exact gj.2.1 | cases hl
  have cl : (condsJ j).length ≤ 1000 := by
    cases j <;> first | exact gj.2.2 | cases hl
  rw [e_answer_by]
  unfold b_answer_by_4
  walk_at "wl"
  refine items_tup ?_
  refine cloop_if Rw.d (fun r => (condsJ j).all (metC r.ws)) Rw.d (fun r hr K1 K2 k1 k2 => ?_) (by omega) ?_
  · walk_at "wl"
    refine sp_conds_of hl ?_
    walk_at "wl"
    refine sp_meets (gr r hr).ws gc cl ?_
    refine ⟨_, rfl, ?_⟩
    cases e : (condsJ j).all (metC r.ws) with
    | true => exact ify rfl (k1 e)
    | false => exact ifn rfl (k2 e)
  show b_answer_by_3 _ _
  have fl : (met rs (condsJ j)).length ≤ 1000 := Nat.le_trans (List.length_filter_le _ _) rl
  unfold b_answer_by_3
  walk_at "wl"
  refine jb0 ?_
  walk_at "wl"
  have lm : (rs.filter fun r => (condsJ j).all (metC r.ws)) = met rs (condsJ j) := rfl
  rw [lm]
  cases j with
  | count t cs =>
    refine ify (by rfl) ?_
    rw [List.length_map]
    exact h
  | rows t cs m =>
    refine ifn (by rfl) ?_
    unfold b_answer_by_2
    walk_at "wl"
    refine jb0 ?_
    walk_at "wl"
    refine ify (by rfl) ?_
    refine ⟨3, rfl, .inl ⟨_, _, rfl, rfl, ?_⟩⟩
    walk_at "wl"
    refine items_own ?_
    rw [show VL.cutD (List.map Rw.d (met rs (condsJ (Jb.rows t cs m)))) none (some (m : Int)) = ((met rs cs).take m).map Rw.d by rw [List.map_take]; exact cut_lo]
    refine cloop_all Rw.d (fun r => .int r.i) (fun r hr K1 k1 => ?_) (by rw [List.length_take]; have : (met rs cs).length ≤ 1000 := fl; omega) ?_
    · rw [Rw.e]
      walk_at "wl"
      refine at0 ?_
      walk_at "wl"
      exact k1
    · exact h
  | sum t k cs =>
    refine ifn (by rfl) ?_
    unfold b_answer_by_2
    walk_at "wl"
    refine jb0 ?_
    walk_at "wl"
    refine ifn (by rfl) ?_
    unfold b_answer_by_1
    walk_at "wl"
    refine ⟨2, rfl, .inl ⟨_, _, rfl, rfl, ?_⟩⟩
    unfold b_answer_by_0
    walk_at "wl"
    refine items_lst ?_
    refine cloop_ty Rw.d (fun r => (numAt k r).map .int) (fun r hr K1 K2 k1 k2 => ?_) (by rw [List.length_nil]; omega) ?_
    · rw [Rw.e]
      walk_at "wl"
      refine at3 ?_
      walk_at "wl"
      rw [List.length_map]
      by_cases hk : k < r.ws.length
      · refine ifp (by omega) ?_
        obtain ⟨v, ev⟩ : ∃ v, r.ws[k]? = some v := ⟨_, List.getElem?_eq_getElem hk⟩
        refine at3 ?_
        refine ⟨_, rfl, ?_⟩
        refine .inl ⟨_, _, rfl, atI_map ev, ?_⟩
        walk_at "wl"
        refine sp_isw ?_
        unfold numAt at k1 k2
        rw [ev] at k1 k2
        refine ⟨_, rfl, ?_⟩
        cases v with
        | num i =>
          refine ify rfl ?_
          refine at3 ?_
          exact ⟨_, rfl, .inl ⟨_, _, rfl, atI_map ev, _, rfl, k1 _ rfl⟩⟩
        | non => exact ifn rfl (k2 rfl)
        | said s => exact ifn rfl (k2 rfl)
        | link t2 n2 => exact ifn rfl (k2 rfl)
      · refine ifq (by omega) ?_
        exact k2 (by unfold numAt; rw [List.getElem?_eq_none (by omega)]; rfl)
    · refine ⟨_, (met rs cs).filterMap (numAt k), rfl, ?_, _, rfl, h⟩
      rw [List.nil_append]
      show some ((met rs cs).filterMap fun r => (numAt k r).map PyData.int) = _
      rw [List.map_filterMap]
  | _ => cases hl
theorem sp_answer_of {N : Nat} {ts : List Tb} (g : GSt N ts) (hN : N ≤ 50) {j : Jb} (gj : GJ j) (ha : isAskB j = true) {tick : Int} {home : Str} {us : List Ru} (hr : refuse ts j tick home us = none) {Q : SV → Prop} (h : Q (.v (ansD ts j))) : m_answer_of [.v (storeD ts), .v j.d] Q := by
  rw [e_answer_of]
  unfold b_answer_of_3
  walk_at "wl"
  refine sp_looks ?_
  refine ⟨_, rfl, ?_⟩
  have gt := tab_g g (gj_t gj)
  have rl := gt.rl
  cases hl : isLook j with
  | true =>
    refine ify rfl ?_
    refine jb1 ?_
    walk_at "wl"
    refine sp_rows_of ?_
    walk_at "wl"
    refine sp_answer_by gt.gr (by omega) gj hl ?_
    cases j <;> first | exact ⟨_, rfl, h⟩ | cases hl
  | false =>
    refine ifn rfl ?_
    unfold b_answer_of_2
    walk_at "wl"
    refine jb1 ?_
    walk_at "wl"
    cases j with
    | get t n =>
      refine ⟨2, rfl, .inl ⟨_, _, rfl, rfl, ?_⟩⟩
      walk_at "wl"
      refine sp_row_of gj.2 ?_
      walk_at "wl"
      simp only [refuse] at hr
      simp only [ansD] at h
      cases el : lk ts t n with
      | none => rw [el] at hr; cases ht : has ts t <;> rw [ht] at hr <;> cases hr
      | some r =>
        rw [el] at h
        simp only [Jb.t]
        rw [el]
        simp only [rwD]
        unfold b_answer_of_1
        walk_at "wl"
        refine jb0 ?_
        walk_at "wl"
        refine ifn (by rfl) ?_
        unfold b_answer_of_0
        walk_at "wl"
        rw [Rw.e]
        walk_at "wl"
        exact at3 h
    | follow t n k =>
      refine ⟨2, rfl, .inl ⟨_, _, rfl, rfl, ?_⟩⟩
      walk_at "wl"
      refine sp_row_of gj.2 ?_
      walk_at "wl"
      simp only [refuse] at hr
      simp only [ansD] at h
      simp only [Jb.t]
      cases el : lk ts t n with
      | none => rw [el] at hr; cases ht : has ts t <;> rw [ht] at hr <;> cases hr
      | some r =>
        rw [el] at h hr
        simp only at h hr
        cases en : lnk r k with
        | none => rw [en] at hr; cases ht : has ts t <;> rw [ht] at hr <;> cases hr
        | some p =>
          obtain ⟨t2, n2⟩ := p
          rw [en] at h hr
          simp only at h hr
          cases e2 : lk ts t2 n2 with
          | none => rw [e2] at hr; cases ht : has ts t <;> rw [ht] at hr <;> cases hr
          | some q =>
            rw [e2] at h
            simp only [rwD]
            unfold b_answer_of_1
            walk_at "wl"
            refine jb0 ?_
            walk_at "wl"
            refine ify (by rfl) ?_
            refine ⟨3, rfl, .inl ⟨_, _, rfl, rfl, ?_⟩⟩
            walk_at "wl"
            refine sp_row_linked (lk_g g (gj_t gj) el) en ?_
            rw [e2]
            simp only [rwD]
            walk_at "wl"
            unfold b_answer_of_0
            rw [Rw.e]
            walk_at "wl"
            exact at3 h
    | put t ld ws => cases ha
    | set t n k v => cases ha
    | add t n k m => cases ha
    | drop t n => cases ha
    | index t k => cases ha
    | _ => cases hl
/-! ### a job done -/
def doneTs (ts : List Tb) (tick : Int) : Jb → List Tb
  | .put t ld ws => insT ts (putTb ts t ld ws tick)
  | .index t k => insT ts (ixTb ts t k)
  | .set t n k v => insT ts (setTb ts t n k v)
  | .add t n k m => match lk ts t n with
    | some r => match r.ws[k]? with
      | some (.num i) => insT ts (setTb ts t n k (.num (m + i)))
      | _ => ts
    | none => ts
  | .drop t n => insT ts (dropTb ts t n)
  | _ => ts
def doneD (ts : List Tb) : Jb → PyData
  | .put t _ _ => .int (tab ts t).nx
  | .index _ _ => .bool true
  | .set _ _ _ v => v.d
  | .add t n k m => match lk ts t n with
    | some r => match r.ws[k]? with
      | some (.num i) => .int (m + i)
      | _ => .none
    | none => .none
  | .drop _ _ => .bool true
  | j => ansD ts j
/-- what a job tells, and the store behind it -/
def tellD (ts : List Tb) (j : Jb) (tick : Int) (home : Str) (us : List Ru) : PyData := match refuse ts j tick home us with
  | some w => .tuple [.str "no", .str w]
  | none => doneD ts j
def behind (ts : List Tb) (j : Jb) (tick : Int) (home : Str) (us : List Ru) : List Tb := match refuse ts j tick home us with
  | some _ => ts
  | none => doneTs ts tick j
theorem isAsk_done {ts : List Tb} {j : Jb} {tick : Int} (h : isAskB j = true) : doneTs ts tick j = ts ∧ doneD ts j = ansD ts j := by
  cases j <;> first | exact ⟨rfl, rfl⟩ | cases h
theorem done_g {N : Nat} {ts : List Tb} (g : GSt N ts) {j : Jb} (gj : GJ j) {tick : Int} (h0 : 0 ≤ tick) : GSt (N + 1) (doneTs ts tick j) := by
  cases j with
  | put t ld ws => exact ins_g g (put_g g gj h0) (Nat.le_refl _)
  | index t k => exact ins_g g (ix_g g gj) (Nat.le_refl _)
  | set t n k v => exact ins_g (g.mono (Nat.le_refl _)) (set_g g gj.1 gj.2.2 |> fun a => ⟨a.nm, a.n0, a.gr, a.ri, a.lt, Nat.le_succ_of_le a.rl, a.ix, a.xr, Nat.le_succ_of_le a.il⟩) (Nat.le_refl _)
  | add t n k m =>
    simp only [doneTs]
    split
    · split
      · rename_i i _
        exact ins_g g (set_g (k := k) (n := n) (v := .num (m + i)) g gj.1 trivial |> fun a => ⟨a.nm, a.n0, a.gr, a.ri, a.lt, Nat.le_succ_of_le a.rl, a.ix, a.xr, Nat.le_succ_of_le a.il⟩) (Nat.le_refl _)
      · exact g.mono (Nat.le_succ _)
    · exact g.mono (Nat.le_succ _)
  | drop t n => exact ins_g g (drop_g (n := n) g gj.1 |> fun a => ⟨a.nm, a.n0, a.gr, a.ri, a.lt, Nat.le_succ_of_le a.rl, a.ix, a.xr, Nat.le_succ_of_le a.il⟩) (Nat.le_refl _)
  | _ => exact g.mono (Nat.le_succ _)
theorem behind_g {N : Nat} {ts : List Tb} (g : GSt N ts) {j : Jb} (gj : GJ j) {tick : Int} (h0 : 0 ≤ tick) {home : Str} {us : List Ru} : GSt (N + 1) (behind ts j tick home us) := by
  unfold behind
  split
  · exact g.mono (Nat.le_succ _)
  · exact done_g g gj h0
theorem row_done_of {ts : List Tb} {j : Jb} {tick : Int} {home : Str} {us : List Ru} (h : (∃ k v n, j = .set j.t n k v) ∨ (∃ k m n, j = .add j.t n k m) ∨ ∃ n, j = .drop j.t n) (hr : refuse ts j tick home us = none) :
    ∃ n r T, ((∃ k v, j = .set j.t n k v) ∨ (∃ k m, j = .add j.t n k m) ∨ j = .drop j.t n) ∧ lk ts j.t n = some r ∧ rowDone ts r j = some (T, doneD ts j) ∧ insT ts T = doneTs ts tick j := by
  rcases h with ⟨k, v, n, e⟩ | ⟨k, m, n, e⟩ | ⟨n, e⟩
  · obtain ⟨t, rfl⟩ : ∃ t, j = .set t n k v := ⟨_, e⟩
    simp only [refuse] at hr
    cases ht : has ts t with
    | false => rw [ht] at hr; cases hr
    | true =>
      rw [ht] at hr
      cases el : lk ts t n with
      | none => rw [el] at hr; cases hr
      | some r => exact ⟨n, r, _, .inl ⟨k, v, rfl⟩, el, rfl, rfl⟩
  · obtain ⟨t, rfl⟩ : ∃ t, j = .add t n k m := ⟨_, e⟩
    simp only [refuse] at hr
    cases ht : has ts t with
    | false => rw [ht] at hr; cases hr
    | true =>
      rw [ht] at hr
      cases el : lk ts t n with
      | none => rw [el] at hr; cases hr
      | some r =>
        rw [el] at hr
        simp only [if_true] at hr
        cases ev : r.ws[k]? with
        | none =>
          have : hasWorth r (.add t n k m) = false := by simp only [hasWorth]; rw [ev]
          rw [this] at hr
          cases hr
        | some v =>
          cases v with
          | num i =>
            refine ⟨n, r, setTb ts t n k (.num (m + i)), .inr (.inl ⟨k, m, rfl⟩), el, ?_, ?_⟩
            · simp only [rowDone, doneD]; rw [el, ev]; simp only []; rw [ev]
            · simp only [doneTs]; rw [el]; simp only []; rw [ev]
          | _ =>
            have : hasWorth r (.add t n k m) = false := by simp only [hasWorth]; rw [ev]; rfl
            rw [this] at hr
            cases hr
  · obtain ⟨t, rfl⟩ : ∃ t, j = .drop t n := ⟨_, e⟩
    simp only [refuse] at hr
    cases ht : has ts t with
    | false => rw [ht] at hr; cases hr
    | true =>
      rw [ht] at hr
      cases el : lk ts t n with
      | none => rw [el] at hr; cases hr
      | some r => exact ⟨n, r, _, .inr (.inr rfl), el, rfl, rfl⟩
theorem sp_done {N : Nat} {ts : List Tb} (g : GSt N ts) (hN : N ≤ 50) {j : Jb} (gj : GJ j) {tick : Int} (h0 : 0 ≤ tick) {home : Str} {us : List Ru} (gu : ∀ u ∈ us, GRu u) {Q : SV → Prop}
    (h : Q (.v (.tuple [storeD (behind ts j tick home us), tellD ts j tick home us]))) : m_done_job [.v (storeD ts), .v j.d, .v (.int tick), .v (.str home), .v (rulesD us)] Q := by
  rw [e_done_job]
  unfold b_done_job_5
  walk_at "wl"
  refine sp_refusal g hN gj h0 gu ?_
  refine ⟨_, rfl, ?_⟩
  walk_at "wl"
  unfold b_done_job_4
  walk_at "wl"
  unfold tellD behind at h
  cases er : refuse ts j tick home us with
  | some w =>
    rw [er] at h
    simp only [optD]
    walk_at "wl"
    rw [m_isN]
    refine ⟨_, rfl, ?_⟩
    refine ify (by rfl) ?_
    exact h
  | none =>
    rw [er] at h
    simp only [optD]
    walk_at "wl"
    rw [m_isN]
    refine ⟨_, rfl, ?_⟩
    refine ifn (by rfl) ?_
    simp only at h
    unfold b_done_job_3
    walk_at "wl"
    refine sp_is_ask gj ?_
    refine ⟨_, rfl, ?_⟩
    cases ea : isAskB j with
    | true =>
      obtain ⟨e1, e2⟩ := isAsk_done (ts := ts) (tick := tick) ea
      rw [e1, e2] at h
      refine ify rfl ?_
      refine sp_answer_of g hN gj ea er ?_
      walk_at "wl"
      exact h
    | false =>
      refine ifn rfl ?_
      unfold b_done_job_2
      walk_at "wl"
      refine jb0 ?_
      walk_at "wl"
      have row : ((∃ k v n, j = .set j.t n k v) ∨ (∃ k m n, j = .add j.t n k m) ∨ ∃ n, j = .drop j.t n) → b_done_job_0 { nx := fun x => Q (SV.v PyData.none), rt := Q, bk := fun x => False, ct := fun x => False } [SV.v (storeD ts), SV.v j.d, .v (.int tick), .v (.str home), .v (rulesD us), .v .none] := by
        intro hj
        obtain ⟨n, r, T, h1, h2, h3, h4⟩ := row_done_of hj er
        unfold b_done_job_0
        walk_at "wl"
        refine sp_row_done g hN gj h1 h2 h3 ?_
        rw [h4]
        exact ⟨_, rfl, h⟩
      cases j with
      | put t ld ws =>
        refine ify (by rfl) ?_
        refine sp_put_done g hN gj h0 ?_
        exact ⟨_, rfl, h⟩
      | index t k =>
        refine ifn (by rfl) ?_
        unfold b_done_job_1
        walk_at "wl"
        refine jb0 ?_
        walk_at "wl"
        refine ify (by rfl) ?_
        refine sp_index_done g hN gj ?_
        exact ⟨_, rfl, h⟩
      | set t n k v =>
        refine ifn (by rfl) ?_
        unfold b_done_job_1
        walk_at "wl"
        refine jb0 ?_
        walk_at "wl"
        refine ifn (by rfl) ?_
        exact row (.inl ⟨k, v, n, rfl⟩)
      | add t n k m =>
        refine ifn (by rfl) ?_
        unfold b_done_job_1
        walk_at "wl"
        refine jb0 ?_
        walk_at "wl"
        refine ifn (by rfl) ?_
        exact row (.inr (.inl ⟨k, m, n, rfl⟩))
      | drop t n =>
        refine ifn (by rfl) ?_
        unfold b_done_job_1
        walk_at "wl"
        refine jb0 ?_
        walk_at "wl"
        refine ifn (by rfl) ?_
        exact row (.inr (.inr ⟨n, rfl⟩))
      | _ => cases ea
/-! ### the tape -/
theorem zl : sizeLine = 16777216 := rfl
theorem loop_ix {g : TGt} {t : TVS} {E : VEnds} {I : Nat → VL.Env → Prop} {T : Nat} (f : Nat → PyData)
    (hb : ∀ i ρ (N : VL.Env → Prop), i < T → I i ρ → (∀ ρ', I (i + 1) ρ' → N ρ') → g (f i) ρ fun ρ' => t { E with nx := N, ct := N, bk := E.nx } ρ') (he : ∀ ρ, I T ρ → E.nx ρ) :
    ∀ (n i : Nat) (ρ : VL.Env), i + n = T → I i ρ → vLoop g t E ((List.range' i n).map f) ρ
  | 0, i, ρ, hT, h => he ρ (by rw [← hT]; exact h)
  | n + 1, i, ρ, hT, h => by
    rw [List.range'_succ, List.map_cons, lp_cons]
    exact hb i ρ _ (by omega) h fun ρ' h' => loop_ix f hb he n (i + 1) ρ' (by omega) h'
theorem mlt {a b : Int} (h : 0 < b) : 0 ≤ a % b ∧ a % b < b := ⟨Int.emod_nonneg _ (by omega), Int.emod_lt_of_pos _ h⟩
theorem s_forL {L : Nat} {it : TVl} {g : TGt} {t : TVS} {E : VEnds} {ρ : VL.Env} : vForL L it g t E ρ = it ρ fun ds => ds.length ≤ L ∧ vLoop g t E ds ρ := rfl
theorem m_lcL {L : Nat} {it : TVl} {g : TGt} {c : TVb} {t : TV} {vs : List Nat} {ρ : VL.Env} {Q : SV → Prop} : vLcL L it g c t vs ρ Q = it ρ fun ds => ds.length ≤ L ∧ cLoop g c t (wipeV ρ vs) ds [] fun acc => Q (.own acc) := rfl
theorem pick_own {ds : List PyData} {i : Int} {Q : SV → Prop} (h0 : 0 ≤ i) (h1 : i < ds.length) (h : ∀ d ∈ ds, Q (.v d)) : fIx (.own ds) (.v (.int i)) Q := by
  obtain ⟨d, e, hd⟩ := pick (R := fun d => Q (.v d)) h0 h1 h
  exact ⟨i, rfl, Or.inl ⟨ds, d, rfl, e, hd⟩⟩
theorem pick_lst {ds : List PyData} {i : Int} {Q : SV → Prop} (h0 : 0 ≤ i) (h1 : i < ds.length) (h : ∀ d ∈ ds, Q (.v d)) : fIx (.v (.list ds)) (.v (.int i)) Q := by
  obtain ⟨d, e, hd⟩ := pick (R := fun d => Q (.v d)) h0 h1 h
  exact ⟨i, rfl, Or.inl ⟨ds, d, rfl, e, hd⟩⟩
theorem cl_rnd {α : Type} {m : α → PyData} {P : α → Prop} {g : TGt} {t : TV} {w : VL.Env} {R : List PyData → Prop} : ∀ (ds : List PyData) (vs : List α), (∀ d ∈ ds, ∀ K : PyData → Prop, (∀ v, P v → K (m v)) → g d w fun ρ' => t ρ' fun s => ∃ z, datasIn [s] = some [z] ∧ K z) → (∀ v ∈ vs, P v) → vs.length + ds.length ≤ 1000 →
    (∀ vs' : List α, (∀ v ∈ vs', P v) → vs'.length = vs.length + ds.length → R (vs'.map m)) → cLoop g (fun _ Q => Q true) t w ds (vs.map m) R
  | [], vs, _, h1, h2, q => q vs h1 (by rw [List.length_nil]; omega)
  | d :: ds, vs, st, h1, h2, q => by
    rw [List.length_cons] at h2
    rw [cl_cons]
    simp only [if_true]
    refine st d (by simp) (fun z => (vs.map m).length < 100000 ∧ cLoop g (fun _ Q => Q true) t w ds (vs.map m ++ [z]) R) fun v ov => ⟨by rw [List.length_map]; omega, ?_⟩
    have := cl_rnd (m := m) ds (vs ++ [v]) (fun e he => st e (by simp [he])) (fun x hx => by
      rcases List.mem_append.mp hx with hx | hx
      · exact h1 x hx
      · rw [List.mem_singleton.mp hx]; exact ov) (by rw [List.length_append]; show vs.length + 1 + _ ≤ _; omega) fun vs' a b => q vs' a (by rw [List.length_append] at b; rw [List.length_cons]; have : [v].length = 1 := rfl; omega)
    rw [List.map_append] at this
    exact this
theorem cut_ints (ns : List Int) (lo hi : Option Int) : ∃ ms : List Int, VL.cutD (ns.map PyData.int) lo hi = ms.map PyData.int := by
  refine ⟨(ns.drop (HT.sIx (ns.map PyData.int).length 0 lo)).take (HT.sIx (ns.map PyData.int).length (ns.map PyData.int).length hi - HT.sIx (ns.map PyData.int).length 0 lo), ?_⟩
  unfold VL.cutD
  rw [List.map_take, List.map_drop]
theorem m_feedCut {ns : List Int} {Q : SV → Prop} (h : ∀ ms : List Int, Q (.own (ms.map .int))) : slM (.scr ns) none (some 63) Q := by
  obtain ⟨ms, e⟩ := cut_ints ns none (some 63)
  exact Or.inl ⟨ns.map .int, rfl, by rw [e]; exact h ms⟩
theorem sp_tape {ns : List Int} {Q : SV → Prop} (h : ∀ a ms, Q (.cell a ⟨true, ms⟩)) : m_law_tape [.scr ns] Q := by
  unfold m_law_tape t_law_tape
  walk_at "wl"
  refine m_feedCut fun ms => ?_
  walk_at "wl"
  exact ⟨ms, rfl, fun a => h a _⟩
theorem sp_pick {a : Addr} {ns : List Int} {many : Int} {Q : SV → Prop} (h0 : 0 < many) (h1 : many < 1000000) (h : ∀ r, 0 ≤ r → r < many → Q (.v (.int r))) : m_law_pick [.cell a ⟨true, ns⟩, .v (.int many)] Q := by
  have fin : ∀ x : Int, Q (.v (.int (x % many))) := fun x => h _ (Int.emod_nonneg _ (by omega)) (Int.emod_lt_of_pos _ h0)
  have dm : ∀ x : Int, CDivW x many := fun x => divOk h0 (by omega)
  have fm : ∀ x : Int, 0 < many ∧ Q (.v (.int (x % many))) := fun x => ⟨h0, fin x⟩
  have mix : ∀ p c : Int, b_law_pick_8 { nx := fun x => Q (SV.v PyData.none), rt := Q, bk := fun x => False, ct := fun x => False } [.cell a ⟨true, ns⟩, .v (.int many), .v (.int p), .v (.int c), .un, .un] := by
    intro p c
    unfold b_law_pick_8 b_law_pick_7 b_law_pick_6 b_law_pick_5
    walk_at "wl"
    refine ⟨by decide, fun x hx => ⟨mulL (by decide) (by decide), by decide, ?_⟩⟩
    have a1 := mlt (a := c % 2147483647 + 78031 * x + 87) (b := 2147483629) (by decide)
    generalize (c % 2147483647 + 78031 * x + 87) % 2147483629 = u at a1 ⊢
    refine ⟨mulL (by omega) (by omega), fun y hy => ⟨mulL (by decide) (by decide), by decide, ?_⟩⟩
    have a2 := mlt (a := u * u + 29303 * y + 23) (b := 2147483587) (by decide)
    generalize (u * u + 29303 * y + 23) % 2147483587 = v at a2 ⊢
    exact ⟨mulL (by omega) (by omega), mulL (by decide) (by decide), by decide, divOk (by decide) (by decide), fm _⟩
  rw [e_law_pick]
  unfold b_law_pick_14
  walk_at "wl"
  unfold b_law_pick_13 b_law_pick_2 b_law_pick_1 b_law_pick_0
  walk_at "wl"
  intro left
  split
  · exact fun _ x _ => ⟨h0, fun _ _ => ⟨dm _, fin _⟩⟩
  · unfold b_law_pick_12
    walk_at "wl"
    intro _ at_
    unfold b_law_pick_11
    walk_at "wl"
    unfold b_law_pick_10
    walk_at "wl"
    have pass : ∀ c : Int, b_law_pick_9 { nx := fun x => Q (SV.v PyData.none), rt := Q, bk := fun x => False, ct := fun x => False } [.cell a ⟨true, ns⟩, .v (.int many), .v (.int at_), .v (.int c), .un, .un] := by
      intro c
      unfold b_law_pick_9 b_law_pick_4 b_law_pick_3
      walk_at "wl"
      refine ⟨⟨by decide, by decide, by decide⟩, ?_⟩
      split
      · split
        · exact ⟨dm _, h0, fin _⟩
        · exact mix _ _
      · exact mix _ _
    intro _
    cases ns with
    | nil =>
      simp only [List.isEmpty_nil, Bool.true_eq_false, if_false]
      exact pass _
    | cons n0 rest =>
      simp only [List.isEmpty_cons, if_true]
      exact ⟨by simp, cell_int (by simp) fun c => pass c⟩
theorem sp_any {a : Addr} {ns : List Int} {ds : List PyData} {Q : SV → Prop} (h0 : 0 < ds.length) (h1 : ds.length < 1000) (h : ∀ d ∈ ds, Q (.v d)) : m_law_any [.cell a ⟨true, ns⟩, .v (.list ds)] Q := by
  unfold m_law_any t_law_any
  walk_at "wl"
  refine sp_pick (many := (ds.length : Int)) (by omega) (by omega) fun r r0 r1 => ?_
  exact pick_lst r0 r1 fun d hd => ⟨_, rfl, h d hd⟩
/-! ### how big things are -/
structure SmV (v : Vl) : Prop where
  ov : OV v
  nm : ∀ i, v = .num i → i.natAbs < 2 ^ 40
  lm : ∀ t i, v = .link t i → i.natAbs < 2 ^ 40
theorem p4064 {n : Nat} (h : n < 2 ^ 40) : n < 2 ^ 64 := Nat.lt_of_lt_of_le h (Nat.pow_le_pow_right (by decide) (by decide))
theorem small64 {i : Int} (h0 : 0 ≤ i) (h1 : i < 1000) : i.natAbs < 2 ^ 64 := Nat.lt_of_lt_of_le (by omega : i.natAbs < 1000) (by decide)
theorem gm_w {t : Str} (h : IsW t) {n : Nat} : Gm 64 90 n (.str t) := (Gm.str h.strG).mono (Nat.le_refl _) (by have := h.2.1; omega) (Nat.le_refl _)
theorem gm_v {v : Vl} (h : SmV v) : Gm 64 3000 1 v.d := by
  cases v with
  | num i => exact (Gm.int (n := 1) (p4064 (h.nm i rfl))).mono (Nat.le_refl _) (by decide) (Nat.le_refl _)
  | non => exact (Gm.none (n := 1)).mono (Nat.le_refl _) (by decide) (Nat.le_refl _)
  | said s =>
    have g1 : Gm 64 90 0 (.str "said") := gm_w (by decide)
    have g2 := Gm.str (b := 64) (n := 0) (IsSaid.strG h.ov)
    exact (Gm.tup (GmA.cons g1 (GmA.one g2))).mono (Nat.le_refl _) (by have := h.ov.1; omega) (Nat.le_refl _)
  | link t i =>
    have g1 : Gm 64 90 0 (.str "link") := gm_w (by decide)
    exact (Gm.tup (GmA.cons g1 (GmA.cons (gm_w h.ov.1) (GmA.one (Gm.int (p4064 (h.lm t i rfl))))))).mono (Nat.le_refl _) (by decide) (Nat.le_refl _)
theorem gm_ws {ws : List Vl} (h : ∀ w ∈ ws, SmV w) (hl : ws.length ≤ 10) : Gm 64 30010 2 (.tuple (ws.map Vl.d)) := by
  have g := GmA.all (b := 64) (c := 3000) (n := 1) (xs := ws.map Vl.d) fun d hd => by obtain ⟨w, hw, rfl⟩ := List.mem_map.mp hd; exact gm_v (h w hw)
  rw [List.length_map] at g
  exact (Gm.tup g).mono (Nat.le_refl _) (by omega) (Nat.le_refl _)
theorem num_sm {i : Int} (h : i.natAbs < 2 ^ 40) : SmV (.num i) := ⟨trivial, fun j e => by cases e; exact h, fun _ _ e => by cases e⟩
theorem said_sm {s : Str} (h : IsSaid s) : SmV (.said s) := ⟨h, fun _ e => (nomatch e), fun _ _ e => (nomatch e)⟩
theorem link_sm {t : Str} {i : Int} (h : IsW t) (h0 : 0 ≤ i) (h1 : i < 1000) : SmV (.link t i) := ⟨⟨h, h0⟩, fun _ e => (nomatch e), fun _ _ e => by cases e; omega⟩
theorem non_sm : SmV .non := ⟨trivial, fun _ e => (nomatch e), fun _ _ e => (nomatch e)⟩
theorem sp_value {a : Addr} {ns : List Int} {Q : SV → Prop} (h : ∀ v, SmV v → Q (.v v.d)) : m_law_value [.cell a ⟨true, ns⟩] Q := by
  rw [e_law_value]
  unfold b_law_value_3
  walk_at "wl"
  refine sp_pick (many := 8) (by decide) (by decide) fun r r0 r1 => ?_
  unfold b_law_value_2
  walk_at "wl"
  split
  · refine ⟨⟨by decide, by decide, by decide⟩, sp_pick (many := 4) (by decide) (by decide) fun r r0 r1 => pick_own r0 (by show r < 4; omega) fun d hd => ⟨_, rfl, ?_⟩⟩
    simp only [List.mem_cons, List.not_mem_nil, or_false] at hd
    rcases hd with rfl | rfl | rfl | rfl
    · exact h (.num 0) (num_sm (by decide))
    · exact h (.num 7) (num_sm (by decide))
    · exact h (.num (-2)) (num_sm (by decide))
    · exact h (.num ((10 : Int) ^ Int.toNat 9)) (num_sm (by decide))
  · unfold b_law_value_1
    walk_at "wl"
    split
    · refine sp_any (by decide) (by decide) fun d hd => ?_
      obtain ⟨t, rfl, ht⟩ : ∃ t : Str, d = .str t ∧ IsW t := by
        simp only [List.mem_cons, List.not_mem_nil, or_false] at hd
        rcases hd with rfl | rfl <;> exact ⟨_, rfl, by decide +kernel⟩
      walk_at "wl"
      refine sp_pick (many := 7) (by decide) (by decide) fun n n0 n1 => ?_
      walk_at "wl"
      exact h (.link t n) (link_sm ht n0 (by omega))
    · unfold b_law_value_0
      walk_at "wl"
      refine pick (by omega) (by show r - 5 < 3; omega) fun d hd => ?_
      simp only [List.mem_cons, List.not_mem_nil, or_false] at hd
      rcases hd with rfl | rfl | rfl
      · exact h (.said "ann") (said_sm (by decide +kernel))
      · exact h (.said "") (said_sm (by decide +kernel))
      · exact h .non non_sm
/-! ### deeds -/
structure DOk (j : Jb) : Prop where
  gj : GJ j
  na : isAskB j = false
  gm : Gm 64 40000 4 j.d
/-- ids so far are few -/
structure TOk (n : Nat) (ts : List Tb) : Prop where
  g : GSt n ts
  nx : ∀ t ∈ ts, t.nx ≤ n
theorem near_tab {n : Nat} {ts : List Tb} (ok : TOk n ts) {t : Str} : ∃ m : Int, 0 ≤ m ∧ m ≤ n ∧ ∃ is : List Int, (SV.own ((ts.filter fun u => decide (u.nm = t)).map fun u => PyData.int u.nx)).asL = some (is.map PyData.int) ∧ is.length ≤ 1 ∧ is.headD 0 = m := by
  have e : ∀ us : List Tb, (us.map Tb.nm).Nodup → (∀ u ∈ us, 0 ≤ u.nx ∧ u.nx ≤ n) → (us.filter fun u => decide (u.nm = t)) = [] ∨ ∃ u, (us.filter fun u => decide (u.nm = t)) = [u] ∧ 0 ≤ u.nx ∧ u.nx ≤ n := by
    intro us nd
    induction us with
    | nil => exact fun _ => .inl rfl
    | cons u us ih =>
      intro hb
      rw [List.map_cons, List.nodup_cons] at nd
      rw [List.filter_cons]
      by_cases hu : u.nm = t
      · rw [decide_eq_true hu, if_pos rfl]
        refine .inr ⟨u, ?_, (hb u (by simp))⟩
        rw [show (us.filter fun u => decide (u.nm = t)) = [] from List.filter_eq_nil_iff.mpr fun v hv e => nd.1 (by rw [hu]; exact List.mem_map.mpr ⟨v, hv, by simpa using e⟩)]
      · rw [decide_eq_false hu, if_neg (by decide)]
        exact ih nd.2 fun v hv => hb v (by simp [hv])
  rcases e ts ok.g.nd (fun u hu => ⟨(ok.g.gt u hu).n0, ok.nx u hu⟩) with e | ⟨u, e, u0, u1⟩
  · exact ⟨0, by omega, by omega, [], by rw [e]; rfl, by simp, rfl⟩
  · exact ⟨u.nx, u0, u1, [u.nx], by rw [e]; rfl, by simp, rfl⟩
theorem sp_deed {a : Addr} {ns : List Int} {n : Nat} {ts : List Tb} (ok : TOk n ts) (hn : n ≤ 50) {Q : SV → Prop} (h : ∀ j, DOk j → Q (.v j.d)) : m_law_deed [.cell a ⟨true, ns⟩, .v (storeD ts)] Q := by
  rw [e_law_deed]
  unfold b_law_deed_8
  walk_at "wl"
  refine sp_any (by decide) (by decide) fun d hd => ?_
  obtain ⟨t, rfl, ht⟩ : ∃ t : Str, d = .str t ∧ IsW t := by
    simp only [List.mem_cons, List.not_mem_nil, or_false] at hd
    rcases hd with rfl | rfl | rfl | rfl <;> exact ⟨_, rfl, by decide +kernel⟩
  unfold b_law_deed_7
  walk_at "wl"
  refine items_tup ?_
  refine cloop_if Tb.d (fun u => decide (u.nm = t)) (fun u => .int u.nx) (fun u hu K1 K2 k1 k2 => ?_) (by have := ok.g.tl; omega) ?_
  · rw [Tb.e]
    walk_at "wl"
    refine at0 ?_
    walk_at "wl"
    by_cases e : u.nm = t
    · refine ify (by simpa using e) ?_
      exact at1 (k1 (decide_eq_true e))
    · exact ifn (by simpa using e) (k2 (decide_eq_false e))
  obtain ⟨m, m0, m1, is, e1, e2, e3⟩ := near_tab ok (t := t)
  refine ⟨is, e1, e2, ?_⟩
  rw [e3]
  clear e1 e2 e3 is
  unfold b_law_deed_6
  walk_at "wl"
  refine sp_pick (many := 12) (by decide) (by decide) fun r r0 r1 => ?_
  walk_at "wl"
  refine sp_pick (many := m + 1) (by omega) (by omega) fun q q0 q1 => ?_
  walk_at "wl"
  have gs : ∀ w : Str, IsW w → Gm 64 90 3 (.str w) := fun w hw => gm_w hw
  have gi : ∀ i : Int, 0 ≤ i → i < 1000 → Gm 64 2000 3 (.int i) := fun i h0 h1 => Gm.int (small64 h0 h1)
  unfold b_law_deed_5
  walk_at "wl"
  split
  · unfold b_law_deed_1
    walk_at "wl"
    simp only [m_lcL]
    walk_at "wl"
    refine sp_pick (many := 5) (by decide) (by decide) fun w w0 w1 => ⟨_, rfl, by omega, by omega, by simp; omega, ?_⟩
    refine cl_rnd (m := Vl.d) (P := SmV) _ [] (fun d hd K k => ?_) (fun _ hv => (nomatch hv)) (by simp; omega) fun vs hv lv => ?_
    · walk_at "wl"
      refine sp_value fun v hv => ?_
      walk_at "wl"
      exact k v hv
    · have lv : vs.length ≤ 10 := by simp at lv; omega
      unfold b_law_deed_0
      walk_at "wl"
      refine sp_any (by decide) (by decide) fun d hd => ?_
      obtain ⟨ld, rfl, hld⟩ : ∃ t : Str, d = .str t ∧ IsW t := by
        simp only [List.mem_cons, List.not_mem_nil, or_false] at hd
        rcases hd with rfl | rfl | rfl | rfl <;> exact ⟨_, rfl, by decide +kernel⟩
      walk_at "wl"
      exact h (.put t ld vs) ⟨⟨ht, hld, fun w hw => (hv w hw).ov, by omega⟩, rfl, (Gm.tup (GmA.cons (gs "put" (by decide)) (GmA.cons (gs t ht) (GmA.cons (gs ld hld) (GmA.one ((gm_ws hv lv).mono (Nat.le_refl _) (Nat.le_refl _) (by decide))))))).mono (Nat.le_refl _) (by decide) (Nat.le_refl _)⟩
  · unfold b_law_deed_4
    walk_at "wl"
    split
    · refine sp_pick (many := 4) (by decide) (by decide) fun k k0 k1 => ?_
      walk_at "wl"
      refine sp_value fun v hv => ?_
      walk_at "wl"
      obtain ⟨k, rfl⟩ : ∃ K : Nat, k = K := ⟨k.toNat, by omega⟩
      exact h (.set t q k v) ⟨⟨ht, q0, hv.ov⟩, rfl, (Gm.tup (GmA.cons (gs "set" (by decide)) (GmA.cons (gs t ht) (GmA.cons (gi q q0 (by omega)) (GmA.cons (gi k (by omega) (by omega)) (GmA.one ((gm_v hv).mono (Nat.le_refl _) (Nat.le_refl _) (by decide)))))))).mono (Nat.le_refl _) (by decide) (Nat.le_refl _)⟩
    · unfold b_law_deed_3
      walk_at "wl"
      split
      · refine sp_pick (many := 4) (by decide) (by decide) fun k k0 k1 => ?_
        walk_at "wl"
        refine sp_pick (many := 7) (by decide) (by decide) fun x x0 x1 => ?_
        walk_at "wl"
        obtain ⟨k, rfl⟩ : ∃ K : Nat, k = K := ⟨k.toNat, by omega⟩
        exact h (.add t q k (x - 3)) ⟨⟨ht, q0⟩, rfl, (Gm.tup (GmA.cons (gs "add" (by decide)) (GmA.cons (gs t ht) (GmA.cons (gi q q0 (by omega)) (GmA.cons (gi k (by omega) (by omega)) (GmA.one (Gm.int (Nat.lt_of_lt_of_le (by omega : (x - 3).natAbs < 1000) (by decide))))))))).mono (Nat.le_refl _) (by decide) (Nat.le_refl _)⟩
      · unfold b_law_deed_2
        walk_at "wl"
        split
        · exact h (.drop t q) ⟨⟨ht, q0⟩, rfl, (Gm.tup (GmA.cons (gs "drop" (by decide)) (GmA.cons (gs t ht) (GmA.one (gi q q0 (by omega)))))).mono (Nat.le_refl _) (by decide) (Nat.le_refl _)⟩
        · refine sp_pick (many := 3) (by decide) (by decide) fun k k0 k1 => ?_
          walk_at "wl"
          obtain ⟨k, rfl⟩ : ∃ K : Nat, k = K := ⟨k.toNat, by omega⟩
          exact h (.index t k) ⟨ht, rfl, (Gm.tup (GmA.cons (gs "index" (by decide)) (GmA.cons (gs t ht) (GmA.one (gi k (by omega) (by omega)))))).mono (Nat.le_refl _) (by decide) (Nat.le_refl _)⟩
structure ROk (u : Ru) : Prop where
  g : GRu u
  st : u.w = "stay" → u.n = none
  gm : Gm 64 3000 1 u.d
theorem sp_rules {a : Addr} {ns : List Int} {Q : SV → Prop} (h : ∀ us : List Ru, (∀ u ∈ us, ROk u) → us.length ≤ 6 → Q (.v (rulesD us))) : m_law_rules [.cell a ⟨true, ns⟩, .v (.list [.str "stay", .str "kept", .str "told"])] Q := by
  rw [e_law_rules]
  unfold b_law_rules_2
  walk_at "wl"
  unfold b_law_rules_1
  simp only [vSeq, s_forL]
  walk_at "wl"
  have mem : ∀ d ∈ [PyData.str "stay", PyData.str "kept", PyData.str "told"], ∃ w : Str, d = .str w ∧ (w = "stay" ∨ w = "kept" ∨ w = "told") := by
    intro d hd
    simp only [List.mem_cons, List.not_mem_nil, or_false] at hd
    rcases hd with rfl | rfl | rfl <;> exact ⟨_, rfl, by simp⟩
  have pm := List.mergeSort_perm [PyData.str "stay", PyData.str "kept", PyData.str "told"] (PySem.W.dataLe false id)
  refine ⟨_, _, rfl, rfl, ?_, .inr ?_, ?_, _, rfl, by rw [show (Srts _).length = _ from pm.length_eq]; decide, ?_⟩
  · intro d hd e he
    obtain ⟨x, rfl, _⟩ := mem d hd
    obtain ⟨y, rfl, _⟩ := mem e he
    rfl
  · intro d hd
    obtain ⟨x, rfl, _⟩ := mem d hd
    exact ⟨nofun, nofun⟩
  · intro d hd
    obtain ⟨x, rfl, _⟩ := mem d hd
    simp [PyData.depth]
  refine loop_inv (I := fun ρ => ∃ (us : List Ru) (x3 x4 : SV), ρ = [.cell a ⟨true, ns⟩, .v (.list [.str "stay", .str "kept", .str "told"]), .own (us.map Ru.d), x3, x4] ∧ us.length ≤ 6 ∧ ∀ u ∈ us, ROk u) (P := fun d => ∃ w : Str, d = .str w ∧ (w = "stay" ∨ w = "kept" ∨ w = "told"))
    (fun d ρ N hp hI hN => ?_) (fun ρ hI => ?_) _ _ (fun d hd => mem d (pm.mem_iff.mp hd)) ⟨[], _, _, rfl, by simp, by simp⟩
  · obtain ⟨w, rfl, hw⟩ := hp
    obtain ⟨us, x3, x4, rfl, hl, ok⟩ := hI
    simp only [s_forL]
    walk_at "wl"
    refine items_tup ⟨by decide, ?_⟩
    refine loop_inv (I := fun ρ => ∃ (us : List Ru) (x4 : SV), ρ = [.cell a ⟨true, ns⟩, .v (.list [.str "stay", .str "kept", .str "told"]), .own (us.map Ru.d), .v (.str w), x4] ∧ us.length ≤ 6 ∧ ∀ u ∈ us, ROk u) (P := fun d => ∃ z : Str, d = .str z ∧ IsW z)
      (fun d ρ N hp hI hN => ?_) (fun ρ hI => ?_) _ _ (fun d hd => by simp only [List.mem_cons, List.not_mem_nil, or_false] at hd; rcases hd with rfl | rfl | rfl <;> exact ⟨_, rfl, by decide⟩) ⟨us, _, rfl, hl, ok⟩
    · obtain ⟨z, rfl, hz⟩ := hp
      obtain ⟨us, x4, rfl, hl, ok⟩ := hI
      walk_at "wl"
      refine sp_pick (many := 4) (by decide) (by decide) fun r r0 r1 => ?_
      walk_at "wl"
      have keep : ∀ us' : List Ru, us'.length ≤ 6 → (∀ u ∈ us', ROk u) → N [.cell a ⟨true, ns⟩, .v (.list [.str "stay", .str "kept", .str "told"]), .own (us'.map Ru.d), .v (.str w), .v (.str z)] := fun us' a b => hN _ ⟨us', _, rfl, a, b⟩
      have more : ∀ u : Ru, ROk u → us.length < 6 → N [.cell a ⟨true, ns⟩, .v (.list [.str "stay", .str "kept", .str "told"]), .own (us.map Ru.d ++ [u.d]), .v (.str w), .v (.str z)] := fun u hu l6 => by
        have := keep (us ++ [u]) (by rw [List.length_append, List.length_singleton]; omega) fun x hx => by
          rcases List.mem_append.mp hx with hx | hx
          · exact ok x hx
          · rw [List.mem_singleton] at hx; rw [hx]; exact hu
        rwa [List.map_append] at this
      have gw : strG w = true := by rcases hw with rfl | rfl | rfl <;> decide +kernel
      by_cases r0 : r = 0
      · refine ify (by simpa using r0) ?_
        by_cases l6 : us.length < 6
        · refine ifp (by rw [List.length_map]; omega) ?_
          refine .inr ⟨.str w, _, rfl, rfl, by rcases hw with rfl | rfl | rfl <;> decide +kernel, by simp [PyData.depth], by decide +kernel, ?_⟩
          have g0 : Gm 64 2990 0 (.str w) := by rcases hw with rfl | rfl | rfl <;> exact (Gm.str (by decide +kernel)).mono (Nat.le_refl _) (by decide) (Nat.le_refl _)
          have g1 : Gm 64 90 0 (.str w) := by rcases hw with rfl | rfl | rfl <;> exact (Gm.str (by decide +kernel)).mono (Nat.le_refl _) (by decide) (Nat.le_refl _)
          refine ⟨_, rfl, ?_⟩
          by_cases k : w = "kept"
          · refine ify (by rw [k]; decide +kernel) ?_
            refine sp_pick (many := 6) (by decide) (by decide) fun n n0 n1 => ?_
            walk_at "wl"
            refine ⟨by rw [zl]; decide, by rw [List.length_map]; omega, ?_⟩
            exact more ⟨w, z, some (1 + n)⟩ ⟨⟨gw, hz, fun _ => ⟨_, rfl⟩⟩, fun e => absurd (k.symm.trans e) (by decide), (Gm.tup (GmA.cons g1 (GmA.cons (gm_w hz) (GmA.one (Gm.int (small64 (by omega) (by omega))))))).mono (Nat.le_refl _) (by decide) (Nat.le_refl _)⟩ l6
          · refine ifn (by rcases hw with rfl | rfl | rfl <;> first | exact absurd rfl k | decide +kernel) ?_
            refine ⟨by rw [zl]; decide, by rw [List.length_map]; omega, ?_⟩
            exact more ⟨w, z, none⟩ ⟨⟨gw, hz, fun e => by rcases e with e | e; exact absurd e k; have e : w = "struck" := e; rcases hw with h | h | h <;> rw [h] at e <;> exact absurd e (by decide)⟩, fun _ => rfl, (Gm.tup (GmA.cons g1 (GmA.one (gm_w hz)))).mono (Nat.le_refl _) (by decide) (Nat.le_refl _)⟩ l6
        · exact ifq (by rw [List.length_map]; omega) (keep us hl ok)
      · exact ifn (by simpa using r0) (keep us hl ok)
    · obtain ⟨us, x4, rfl, hl, ok⟩ := hI
      exact hN _ ⟨us, _, _, rfl, hl, ok⟩
  · obtain ⟨us, x3, x4, rfl, hl, ok⟩ := hI
    dsimp only
    unfold b_law_rules_0
    walk_at "wl"
    exact h us ok hl
theorem shaped_ru {u : Ru} (h : ROk u) : u.d.canLay0 = true := by
  have := h.gm.ck
  exact lay_of _ this
theorem any_stay {us : List Ru} (g : ∀ u ∈ us, ROk u) {ld : Str} : (us.map Ru.d).any (PyData.eqv · (.tuple [.str "stay", .str ld])) = (ruleOf us "stay" ld).isSome := by
  unfold ruleOf
  induction us with
  | nil => rfl
  | cons u us ih =>
    rw [List.map_cons, List.any_cons, List.find?_cons, ih fun v hv => g v (by simp [hv])]
    have gu := g u (by simp)
    have e : PyData.eqv u.d (.tuple [.str "stay", .str ld]) = (decide (u.w = "stay") && decide (u.ld = ld)) := by
      rcases u with ⟨w, l, _ | n⟩
      · simp only [Ru.d, PyData.eqv, PyData.eqvAll, Bool.and_true]
        by_cases h1 : w = Str.ofString "stay" <;> by_cases h2 : l = ld <;> simp [h1, h2]
      · have : w ≠ "stay" := fun e => by have := gu.st e; cases this
        simp [Ru.d, PyData.eqv, PyData.eqvAll, this]
    rw [e]
    cases decide (u.w = "stay") && decide (u.ld = ld) <;> simp
theorem sp_law_stray {us : List Ru} (g : ∀ u ∈ us, ROk u) {ld yo : Str} (hl : IsW ld) {Q : SV → Prop} (h : Q (.v (.bool (!decide (ld = yo) && (ruleOf us "stay" ld).isSome)))) : m_law_is_stray [.v (.str ld), .v (rulesD us), .v (.str yo)] Q := by
  unfold m_law_is_stray t_law_is_stray
  walk_at "wl"
  have ls := lay_str hl.strG
  refine .inr ⟨.tuple [.str "stay", .str ld], _, rfl, rfl, ?_, by simp [PyData.depth, PyData.depthAll], ?_, ?_⟩
  · simp only [PyData.canLay0, PyData.canLayAll0, Bool.and_true] at ls ⊢
    rw [ls]
    decide +kernel
  · exact lay_map fun u hu => shaped_ru (g u hu)
  · refine ⟨_, rfl, ?_⟩
    rw [any_stay g]
    simp only [Bool.false_eq_true, if_false]
    have e : (!ld == yo) = !decide (ld = yo) := by by_cases e : ld = yo <;> simp [e]
    cases hs : (ruleOf us "stay" ld).isSome with
    | true => refine ify rfl ?_; rw [hs, Bool.and_true] at h; rw [e]; exact h
    | false => refine ifn rfl ?_; rw [hs, Bool.and_false] at h; exact h
/-! ### what breaks -/
/-- the spot that strays there, or none -/
def brk (us : List Ru) (yo : Str) (told : PyData) : Jb → PyData
  | .put t ld _ => if (!decide (ld = yo) && (ruleOf us "stay" ld).isSome) = true then .tuple [.str t, told] else .none
  | _ => .none
theorem sp_breaks {us : List Ru} (g : ∀ u ∈ us, ROk u) {yo : Str} {j : Jb} (ok : DOk j) {told : PyData} {Q : SV → Prop} (h : Q (.v (brk us yo told j))) : m_law_breaks [.v j.d, .v told, .v (rulesD us), .v (.str yo)] Q := by
  rw [e_law_breaks]
  unfold b_law_breaks_1
  walk_at "wl"
  refine jb0 ?_
  walk_at "wl"
  cases j with
  | put t ld ws =>
    refine ify (by rfl) ?_
    refine ⟨2, rfl, .inl ⟨_, _, rfl, rfl, ?_⟩⟩
    walk_at "wl"
    refine sp_law_stray g ok.gj.2.1 ?_
    refine ⟨_, rfl, ?_⟩
    simp only [brk] at h
    split
    · rename_i e
      rw [if_pos e] at h
      refine ⟨1, rfl, .inl ⟨_, _, rfl, rfl, _, rfl, by simp, h⟩⟩
    · rename_i e
      rw [if_neg e] at h
      unfold b_law_breaks_0
      walk_at "wl"
      exact h
  | _ =>
    refine ifn (by rfl) ?_
    unfold b_law_breaks_0
    walk_at "wl"
    exact h
theorem sp_ref_int {n : Int} {Q : SV → Prop} (h : Q (.v (.bool false))) : m_is_refusal [.v (.int n)] Q := by
  unfold m_is_refusal t_is_refusal
  walk_at "wl"
  unfold m_begins_with_text t_begins_with_text
  walk_at "wl"
  exact h
theorem sp_broken {us : List Ru} (g : ∀ u ∈ us, GRu u) {yo : Str} {j : Jb} (ok : DOk j) {told : PyData} (hp : ∀ t ld ws, j = .put t ld ws → ∃ n : Int, told = .int n ∧ 0 ≤ n) {Q : SV → Prop} (h : Q (.v (brk us yo told j))) : m_broken_by [.v j.d, .v told, .v (.str yo), .v (rulesD us)] Q := by
  rw [e_broken_by]
  unfold b_broken_by_2
  walk_at "wl"
  refine jb0 ?_
  walk_at "wl"
  cases j with
  | put t ld ws =>
    obtain ⟨n, rfl, n0⟩ := hp t ld ws rfl
    refine ifq (show ¬ (Str.ofString "put" == Str.ofString "put") = false by decide) ?_
    refine sp_ref_int ?_
    refine ⟨_, rfl, ifn rfl ?_⟩
    unfold b_broken_by_1
    walk_at "wl"
    refine ⟨2, rfl, .inl ⟨_, _, rfl, rfl, ?_⟩⟩
    walk_at "wl"
    refine ⟨3, rfl, .inl ⟨_, _, rfl, rfl, ?_⟩⟩
    unfold b_broken_by_0
    walk_at "wl"
    refine sp_is_stray (r := ⟨n, ld, 0, ws⟩) g ⟨n0, ok.gj.2.1, Int.le_refl _, ok.gj.2.2.1, ok.gj.2.2.2⟩ ?_
    refine ⟨_, rfl, ?_⟩
    unfold strayD
    simp only [brk] at h
    split
    · rename_i e
      rw [if_pos e] at h
      refine ⟨1, rfl, .inl ⟨_, _, rfl, rfl, ?_⟩⟩
      walk_at "wl"
      exact h
    · rename_i e
      rw [if_neg e] at h
      exact h
  | _ => exact ifp (by rfl) h
/-! ### done -/
def isNo : PyData → Bool
  | .tuple (.str w :: _) => w == "no"
  | _ => false
def Told (d : PyData) : Prop := (∃ w : Str, d = .tuple [.str "no", .str w]) ∨ (∃ v, d = Vl.d v ∧ OV v) ∨ d = .bool true
theorem deed_w {j : Jb} (h : isAskB j = false) : [PyData.str "put", .str "set", .str "add", .str "drop", .str "index"].any (PyData.eqv · (.str j.w)) = true := by
  cases j <;> first | (cases h; done) | (simp only [Jb.w]; decide +kernel)
theorem cut1 {x : PyData} {xs : List PyData} : VL.cutD (x :: xs) none (some 1) = [x] := by
  rw [show (some (1 : Int)) = some ((1 : Nat) : Int) from rfl, cut_lo]
  rfl
theorem sh1 {w : Str} (h : strG w = true) : SeqAt.shaped (.tuple [.str w]) = true := by
  unfold SeqAt.shaped
  have e : PyData.canLay0 (.tuple [.str w]) = true := by
    have h1 := lay_str h
    simp only [PyData.canLay0, PyData.canLayAll0, Bool.and_true] at h1 ⊢
    exact h1
  rw [e]
  simp [PyData.depth, PyData.depthAll]
theorem ne1 {w : Str} {xs : List PyData} (g : strG w = true) {Q : SV → Prop} (h : Q (.v (.bool (!(w == "no"))))) : slM (.v (.tuple (.str w :: xs))) none (some 1) fun a => fEq true a (.v (.tuple [.str "no"])) fun s => ∃ z, s.hand = some z ∧ Q z := by
  walk_at "wl"
  rw [cut1]
  refine ⟨_, _, rfl, rfl, sh1 g, sh1 (by decide +kernel), _, rfl, ?_⟩
  simpa [PyData.eqv, PyData.eqvAll] using h
theorem sp_is_done {j : Jb} (ok : DOk j) {told : PyData} (ht : Told told) {Q : SV → Prop} (h : Q (.v (.bool (!isNo told)))) : m_law_is_done [.v j.d, .v told] Q := by
  unfold m_law_is_done t_law_is_done
  walk_at "wl"
  refine jb0 ?_
  walk_at "wl"
  refine .inr ⟨.str j.w, _, rfl, rfl, jw_lay j, by simp [PyData.depth], by decide +kernel, ?_⟩
  refine ⟨_, rfl, ?_⟩
  refine ify (deed_w ok.na) ?_
  rcases ht with ⟨w, rfl⟩ | ⟨v, rfl, ov⟩ | rfl
  · refine ifq (by simp [isT, tyName]) ?_
    exact ne1 (by decide +kernel) h
  · cases v with
    | num i => exact ifp rfl h
    | non => exact ifp rfl h
    | said s =>
      refine ifq (by simp [Vl.d, isT, tyName]) ?_
      exact ne1 (by decide +kernel) h
    | link t n =>
      refine ifq (by simp [Vl.d, isT, tyName]) ?_
      exact ne1 (by decide +kernel) h
  · exact ifp rfl h
/-- what a deed tells -/
theorem deed_told {ts : List Tb} {n : Nat} (ok : TOk n ts) {j : Jb} (dk : DOk j) {tick : Int} {home : Str} {us : List Ru} : Told (tellD ts j tick home us) ∧
    (isNo (tellD ts j tick home us) = false → ∀ t ld ws, j = .put t ld ws → ∃ i : Int, tellD ts j tick home us = .int i ∧ 0 ≤ i ∧ i ≤ n) := by
  unfold tellD
  cases e : refuse ts j tick home us with
  | some w => exact ⟨.inl ⟨w, rfl⟩, fun h => absurd h (by simp [isNo])⟩
  | none =>
    cases j with
    | put t ld ws =>
      have g := tab_g ok.g dk.gj.1
      have : (tab ts t).nx ≤ n := by
        cases hh : has ts t with
        | true => exact ok.nx _ (tab_mem hh)
        | false => rw [tab_void hh]; exact Int.natCast_nonneg _
      exact ⟨.inr (.inl ⟨.num _, rfl, trivial⟩), fun _ t' ld' ws' e => by cases e; exact ⟨_, rfl, g.n0, this⟩⟩
    | index t k => exact ⟨.inr (.inr rfl), fun _ _ _ _ e => (nomatch e)⟩
    | set t m k v => exact ⟨.inr (.inl ⟨v, rfl, dk.gj.2.2⟩), fun _ _ _ _ e => (nomatch e)⟩
    | add t m k x =>
      refine ⟨?_, fun _ _ _ _ e => (nomatch e)⟩
      simp only [doneD]
      split
      · split
        · exact .inr (.inl ⟨.num _, rfl, trivial⟩)
        · exact .inr (.inl ⟨.non, rfl, trivial⟩)
      · exact .inr (.inl ⟨.non, rfl, trivial⟩)
    | drop t m => exact ⟨.inr (.inr rfl), fun _ _ _ _ e => (nomatch e)⟩
    | _ => cases dk.na
theorem nx_ins {n : Int} {t : Tb} {ts : List Tb} (h : ∀ u ∈ ts, u.nx ≤ n) (ht : t.nx ≤ n) : ∀ u ∈ insT ts t, u.nx ≤ n := fun u hu => by
  rcases mem_ins hu with rfl | hu
  · exact ht
  · exact h u hu
theorem nx_tab {n : Nat} {ts : List Tb} (h : ∀ u ∈ ts, u.nx ≤ (n : Int)) {t : Str} : (tab ts t).nx ≤ n := by
  cases hh : has ts t with
  | true => exact h _ (tab_mem hh)
  | false => rw [tab_void hh]; exact Int.natCast_nonneg _
theorem behind_ok {ts : List Tb} {n : Nat} (ok : TOk n ts) {j : Jb} (dk : DOk j) {tick : Int} (h0 : 0 ≤ tick) {home : Str} {us : List Ru} : TOk (n + 1) (behind ts j tick home us) := by
  refine ⟨behind_g ok.g dk.gj h0, ?_⟩
  have up : ∀ u ∈ ts, u.nx ≤ ((n + 1 : Nat) : Int) := fun u hu => by have := ok.nx u hu; omega
  unfold behind
  split
  · exact up
  · have tt : ∀ t, (tab ts t).nx ≤ ((n + 1 : Nat) : Int) := fun t => by have := nx_tab ok.nx (t := t); omega
    cases j with
    | put t ld ws => exact nx_ins up (by show (tab ts t).nx + 1 ≤ _; have := nx_tab ok.nx (t := t); omega)
    | index t k => exact nx_ins up (tt t)
    | set t m k v => exact nx_ins up (tt t)
    | add t m k x =>
      simp only [doneTs]
      split
      · split
        · exact nx_ins up (tt t)
        · exact up
      · exact up
    | drop t m => exact nx_ins up (tt t)
    | _ => exact up
theorem brk_gm {us : List Ru} {yo : Str} {told : PyData} {j : Jb} (dk : DOk j) (ht : ∀ t ld ws, j = .put t ld ws → ∃ i : Int, told = .int i ∧ 0 ≤ i ∧ i < 1000) : Gm 64 3000 1 (brk us yo told j) := by
  have non : Gm 64 3000 1 PyData.none := Gm.none.mono (Nat.le_refl _) (by decide) (Nat.le_refl _)
  cases j with
  | put t ld ws =>
    obtain ⟨i, rfl, i0, i1⟩ := ht t ld ws rfl
    simp only [brk]
    split
    · exact (Gm.tup (GmA.cons (gm_w dk.gj.1) (GmA.one (Gm.int (small64 i0 i1))))).mono (Nat.le_refl _) (by decide) (Nat.le_refl _)
    · exact non
  | _ => exact non
theorem seen_gm {us : List Ru} (hu : ∀ u ∈ us, ROk u) (hl : us.length ≤ 6) {j : Jb} (dk : DOk j) : Gm 64 60000 5 (.tuple [j.d, rulesD us]) := by
  have g := GmA.all (b := 64) (c := 3000) (n := 1) (xs := us.map Ru.d) fun d hd => by obtain ⟨u, hw, rfl⟩ := List.mem_map.mp hd; exact (hu u hw).gm
  rw [List.length_map] at g
  exact (Gm.tup (GmA.cons dk.gm (GmA.one ((Gm.tup g).mono (Nat.le_refl _) (Nat.le_refl _) (by decide))))).mono (Nat.le_refl _) (by omega) (by decide)
theorem law_true (ns : List Int) (h : ns.length ≤ 63) : m_law [.scr ns] (fun s => s = .v (.bool true)) := by
  rw [e_law]
  unfold b_law_12
  walk_at "wl"
  refine sp_tape fun a ms => ?_
  walk_at "wl"
  unfold b_law_11
  simp only [vSeq, s_forL]
  walk_at "wl"
  refine ⟨_, rfl, by decide, by decide, by decide, ?_⟩
  rw [List.range_eq_range']
  refine loop_ix (T := 3) (I := fun i ρ => ∃ x2 x3 x4 x5 x6 x7 x8 x9 x10 : SV, ρ = [.scr ns, .cell a ⟨true, ms⟩, x2, x3, x4, x5, x6, x7, x8, x9, x10]) (fun i => .int (0 + (i : Int))) (fun i ρ N hi hI hN => ?_) (fun ρ hI => ?_) 3 0 _ rfl ⟨_, _, _, _, _, _, _, _, _, rfl⟩
  · obtain ⟨x2, x3, x4, x5, x6, x7, x8, x9, x10, rfl⟩ := hI
    walk_at "wl"
    unfold b_law_9
    walk_at "wl"
    refine sp_rules fun us hus lus => ?_
    walk_at "wl"
    unfold b_law_8
    walk_at "wl"
    unfold b_law_7
    simp only [s_forL]
    walk_at "wl"
    refine ⟨_, rfl, by decide, by decide, by decide, ?_⟩
    rw [List.range_eq_range']
    refine loop_ix (T := 16) (I := fun i ρ => ∃ (x2 x5 x6 x7 x8 x9 x10 : SV) (ts : List Tb), ρ = [.scr ns, .cell a ⟨true, ms⟩, x2, .v (rulesD us), .v (storeD ts), x5, x6, x7, x8, x9, x10] ∧ TOk i ts) (fun i => .int (0 + (i : Int))) (fun i ρ N hi hI hN => ?_) (fun ρ hI => ?_) 16 0 _ rfl ⟨_, _, _, _, _, _, _, [], rfl, ⟨⟨by simp, List.Pairwise.nil, by simp⟩, by simp⟩⟩
    · obtain ⟨x2, x5, x6, x7, x8, x9, x10, ts, rfl, ok⟩ := hI
      walk_at "wl"
      unfold b_law_6
      walk_at "wl"
      refine sp_deed ok (by omega) fun j dk => ?_
      walk_at "wl"
      unfold b_law_5
      walk_at "wl"
      refine sp_done (us := []) ok.g (by omega) dk.gj (by omega) (fun u hu => (nomatch hu)) ?_
      obtain ⟨t1, t2⟩ := deed_told ok dk (tick := 0 + (i : Int)) (home := "eu") (us := [])
      have ok' := behind_ok ok dk (tick := 0 + (i : Int)) (by omega) (home := "eu") (us := [])
      generalize tellD ts j (0 + (i : Int)) "eu" [] = told at t1 t2 ⊢
      generalize behind ts j (0 + (i : Int)) "eu" [] = ts' at ok' ⊢
      walk_at "wl"
      unfold b_law_4
      walk_at "wl"
      refine sp_is_done dk t1 ?_
      refine ⟨_, rfl, ?_⟩
      cases en : isNo told with
      | true => exact ifn rfl (hN _ ⟨_, _, _, _, _, _, _, _, rfl, ok'⟩)
      | false =>
        have t2 := t2 en
        have ti : ∀ t ld ws, j = .put t ld ws → ∃ n : Int, told = .int n ∧ 0 ≤ n ∧ n < 1000 := fun t ld ws e => by
          obtain ⟨n, e1, e2, e3⟩ := t2 t ld ws e
          exact ⟨n, e1, e2, by omega⟩
        have tj : ∀ t ld ws, j = .put t ld ws → ∃ n : Int, told = .int n ∧ 0 ≤ n := fun t ld ws e => by
          obtain ⟨n, e1, e2, e3⟩ := t2 t ld ws e
          exact ⟨n, e1, e2⟩
        refine ify rfl ?_
        unfold b_law_3
        walk_at "wl"
        refine items_tup ?_
        have sg := seen_gm hus lus dk
        refine loop_inv (I := fun ρ => ∃ (x8 x9 x10 : SV), ρ = [.scr ns, .cell a ⟨true, ms⟩, x2, .v (rulesD us), .v (storeD ts'), .v (.int (0 + (i : Int))), .v j.d, .v told, x8, x9, x10]) (P := fun d => ∃ z : Str, d = .str z)
          (fun d ρ N' hp hI hN' => ?_) (fun ρ hI => ?_) _ _ (fun d hd => by simp only [List.mem_cons, List.not_mem_nil, or_false] at hd; rcases hd with rfl | rfl | rfl <;> exact ⟨_, rfl⟩) ⟨_, _, _, rfl⟩
        · obtain ⟨z, rfl⟩ := hp
          obtain ⟨x8, x9, x10, rfl⟩ := hI
          have bg := brk_gm (us := us) (yo := z) dk ti
          walk_at "wl"
          unfold b_law_1
          walk_at "wl"
          refine ⟨sg.shw (by decide) (by decide) (by decide), ?_⟩
          refine sp_breaks hus dk ?_
          walk_at "wl"
          refine ⟨bg.shw (by decide) (by decide) (by decide), ?_⟩
          unfold b_law_0
          walk_at "wl"
          refine sp_broken (fun u hu => (hus u hu).g) dk tj ?_
          walk_at "wl"
          refine ⟨bg.shw (by decide) (by decide) (by decide), ?_⟩
          have sq : ∀ x : Str, ¬ (x == x) = false := fun x => by simp
          refine ifq (sq _) ⟨sg.shw (by decide) (by decide) (by decide), ifq (sq _) ?_⟩
          exact hN' _ ⟨_, _, _, rfl⟩
        · obtain ⟨x8, x9, x10, rfl⟩ := hI
          dsimp only
          unfold b_law_2
          walk_at "wl"
          refine sp_broken (us := []) (fun u hu => (nomatch hu)) dk tj ?_
          have e : brk [] "us" told j = .none := by cases j <;> simp [brk, ruleOf]
          rw [e, m_isN]
          refine ⟨_, rfl, ?_⟩
          refine ifn rfl ?_
          exact hN _ ⟨_, _, _, _, _, _, _, _, rfl, ok'⟩
    · obtain ⟨x2, x5, x6, x7, x8, x9, x10, ts, rfl, ok⟩ := hI
      exact hN _ ⟨_, _, _, _, _, _, _, _, _, rfl⟩
  · obtain ⟨x2, x3, x4, x5, x6, x7, x8, x9, x10, rfl⟩ := hI
    dsimp only
    unfold b_law_10
    walk_at "wl"
/-! ### the end -/
def txt_mk {K : PySem.W.Frag} {h : Heap} {mg : Str → Option Value} {w : World} (X : K.In h) (G : h.Ns mainGlobals mg)
    {t_SMALL_LETTERS : Tok} {t_MOST_LETTERS : Tok} {t_MOST_SIGNS : Tok} {t_FIRST_SIGN : Tok} {t_LAST_SIGN : Tok} {t_BARRED_SIGN : Tok} {t_SIGNS_0 : Tok} {t_SIGNS_1 : Tok} {t_SIGNS_2 : Tok} {a_SIGNS : Addr} {o_SIGNS : Obj} {n_SIGNS : Nat} {a_dv_broken_by_rules : Addr} {o_dv_broken_by_rules : Obj} {n_dv_broken_by_rules : Nat} {a_dv_done_job_rules : Addr} {o_dv_done_job_rules : Obj} {n_dv_done_job_rules : Nat} {t_ASKS_0_0 : Tok} {t_ASKS_0_1 : Tok} {a_ASKS_0 : Addr} {o_ASKS_0 : Obj} {n_ASKS_0 : Nat} {t_ASKS_1_0 : Tok} {t_ASKS_1_1 : Tok} {t_ASKS_1_2 : Tok} {a_ASKS_1 : Addr} {o_ASKS_1 : Obj} {n_ASKS_1 : Nat} {t_ASKS_2_0 : Tok} {t_ASKS_2_1 : Tok} {a_ASKS_2 : Addr} {o_ASKS_2 : Obj} {n_ASKS_2 : Nat} {t_ASKS_3_0 : Tok} {t_ASKS_3_1 : Tok} {t_ASKS_3_2 : Tok} {a_ASKS_3 : Addr} {o_ASKS_3 : Obj} {n_ASKS_3 : Nat} {t_ASKS_4_0 : Tok} {t_ASKS_4_1 : Tok} {t_ASKS_4_2 : Tok} {a_ASKS_4 : Addr} {o_ASKS_4 : Obj} {n_ASKS_4 : Nat} {d_ASKS : Addr} {es_ASKS : Array DictEntry} {n_ASKS : Nat} {h_ASKS_0 : Int} {t_ASKS_0 : Tok} {h_ASKS_1 : Int} {t_ASKS_1 : Tok} {h_ASKS_2 : Int} {t_ASKS_2 : Tok} {h_ASKS_3 : Int} {t_ASKS_3 : Tok} {h_ASKS_4 : Int} {t_ASKS_4 : Tok} {f_is_whole : Addr} {oc_is_whole kV_is_whole doc_is_whole pm_is_whole cd_is_whole ct_is_whole : Value} {od_is_whole an_is_whole : Option Addr} {osl_is_whole : Array (Option Value)} {f_is_number : Addr} {oc_is_number kV_is_number doc_is_number pm_is_number cd_is_number ct_is_number : Value} {od_is_number an_is_number : Option Addr} {osl_is_number : Array (Option Value)} {f_is_from_one : Addr} {oc_is_from_one kV_is_from_one doc_is_from_one pm_is_from_one cd_is_from_one ct_is_from_one : Value} {od_is_from_one an_is_from_one : Option Addr} {osl_is_from_one : Array (Option Value)} {f_is_word : Addr} {oc_is_word kV_is_word doc_is_word pm_is_word cd_is_word ct_is_word : Value} {od_is_word an_is_word : Option Addr} {osl_is_word : Array (Option Value)} {f_is_said_text : Addr} {oc_is_said_text kV_is_said_text doc_is_said_text pm_is_said_text cd_is_said_text ct_is_said_text : Value} {od_is_said_text an_is_said_text : Option Addr} {osl_is_said_text : Array (Option Value)} {f_is_tuple_of : Addr} {oc_is_tuple_of kV_is_tuple_of doc_is_tuple_of pm_is_tuple_of cd_is_tuple_of ct_is_tuple_of : Value} {od_is_tuple_of an_is_tuple_of : Option Addr} {osl_is_tuple_of : Array (Option Value)} {f_is_said : Addr} {oc_is_said kV_is_said doc_is_said pm_is_said cd_is_said ct_is_said : Value} {od_is_said an_is_said : Option Addr} {osl_is_said : Array (Option Value)} {f_is_link : Addr} {oc_is_link kV_is_link doc_is_link pm_is_link cd_is_link ct_is_link : Value} {od_is_link an_is_link : Option Addr} {osl_is_link : Array (Option Value)} {f_is_value : Addr} {oc_is_value kV_is_value doc_is_value pm_is_value cd_is_value ct_is_value : Value} {od_is_value an_is_value : Option Addr} {osl_is_value : Array (Option Value)} {f_are_worths : Addr} {oc_are_worths kV_are_worths doc_are_worths pm_are_worths cd_are_worths ct_are_worths : Value} {od_are_worths an_are_worths : Option Addr} {osl_are_worths : Array (Option Value)} {f_is_cond : Addr} {oc_is_cond kV_is_cond doc_is_cond pm_is_cond cd_is_cond ct_is_cond : Value} {od_is_cond an_is_cond : Option Addr} {osl_is_cond : Array (Option Value)} {f_are_conds : Addr} {oc_are_conds kV_are_conds doc_are_conds pm_are_conds cd_are_conds ct_are_conds : Value} {od_are_conds an_are_conds : Option Addr} {osl_are_conds : Array (Option Value)} {f_fits : Addr} {oc_fits kV_fits doc_fits pm_fits cd_fits ct_fits : Value} {od_fits an_fits : Option Addr} {osl_fits : Array (Option Value)} {f_are_parts : Addr} {oc_are_parts kV_are_parts doc_are_parts pm_are_parts cd_are_parts ct_are_parts : Value} {od_are_parts an_are_parts : Option Addr} {osl_are_parts : Array (Option Value)} {f_begins_with_text : Addr} {oc_begins_with_text kV_begins_with_text doc_begins_with_text pm_begins_with_text cd_begins_with_text ct_begins_with_text : Value} {od_begins_with_text an_begins_with_text : Option Addr} {osl_begins_with_text : Array (Option Value)} {f_is_ask : Addr} {oc_is_ask kV_is_ask doc_is_ask pm_is_ask cd_is_ask ct_is_ask : Value} {od_is_ask an_is_ask : Option Addr} {osl_is_ask : Array (Option Value)} {f_is_refusal : Addr} {oc_is_refusal kV_is_refusal doc_is_refusal pm_is_refusal cd_is_refusal ct_is_refusal : Value} {od_is_refusal an_is_refusal : Option Addr} {osl_is_refusal : Array (Option Value)} {f_tables_of : Addr} {oc_tables_of kV_tables_of doc_tables_of pm_tables_of cd_tables_of ct_tables_of : Value} {od_tables_of an_tables_of : Option Addr} {osl_tables_of : Array (Option Value)} {f_has_table : Addr} {oc_has_table kV_has_table doc_has_table pm_has_table cd_has_table ct_has_table : Value} {od_has_table an_has_table : Option Addr} {osl_has_table : Array (Option Value)} {f_table_in : Addr} {oc_table_in kV_table_in doc_table_in pm_table_in cd_table_in ct_table_in : Value} {od_table_in an_table_in : Option Addr} {osl_table_in : Array (Option Value)} {f_rows_of : Addr} {oc_rows_of kV_rows_of doc_rows_of pm_rows_of cd_rows_of ct_rows_of : Value} {od_rows_of an_rows_of : Option Addr} {osl_rows_of : Array (Option Value)} {f_row_of : Addr} {oc_row_of kV_row_of doc_row_of pm_row_of cd_row_of ct_row_of : Value} {od_row_of an_row_of : Option Addr} {osl_row_of : Array (Option Value)} {f_with_table : Addr} {oc_with_table kV_with_table doc_with_table pm_with_table cd_with_table ct_with_table : Value} {od_with_table an_with_table : Option Addr} {osl_with_table : Array (Option Value)} {f_row_turned : Addr} {oc_row_turned kV_row_turned doc_row_turned pm_row_turned cd_row_turned ct_row_turned : Value} {od_row_turned an_row_turned : Option Addr} {osl_row_turned : Array (Option Value)} {f_link_at : Addr} {oc_link_at kV_link_at doc_link_at pm_link_at cd_link_at ct_link_at : Value} {od_link_at an_link_at : Option Addr} {osl_link_at : Array (Option Value)} {f_rule_of : Addr} {oc_rule_of kV_rule_of doc_rule_of pm_rule_of cd_rule_of ct_rule_of : Value} {od_rule_of an_rule_of : Option Addr} {osl_rule_of : Array (Option Value)} {f_is_kept : Addr} {oc_is_kept kV_is_kept doc_is_kept pm_is_kept cd_is_kept ct_is_kept : Value} {od_is_kept an_is_kept : Option Addr} {osl_is_kept : Array (Option Value)} {f_is_stray : Addr} {oc_is_stray kV_is_stray doc_is_stray pm_is_stray cd_is_stray ct_is_stray : Value} {od_is_stray an_is_stray : Option Addr} {osl_is_stray : Array (Option Value)} {f_broken_by : Addr} {oc_broken_by kV_broken_by doc_broken_by pm_broken_by cd_broken_by ct_broken_by : Value} {od_broken_by an_broken_by : Option Addr} {osl_broken_by : Array (Option Value)} {D_broken_by : Addr} {f_same : Addr} {oc_same kV_same doc_same pm_same cd_same ct_same : Value} {od_same an_same : Option Addr} {osl_same : Array (Option Value)} {f_are_same : Addr} {oc_are_same kV_are_same doc_are_same pm_are_same cd_are_same ct_are_same : Value} {od_are_same an_are_same : Option Addr} {osl_are_same : Array (Option Value)} {f_meets_cond : Addr} {oc_meets_cond kV_meets_cond doc_meets_cond pm_meets_cond cd_meets_cond ct_meets_cond : Value} {od_meets_cond an_meets_cond : Option Addr} {osl_meets_cond : Array (Option Value)} {f_meets : Addr} {oc_meets kV_meets doc_meets pm_meets cd_meets ct_meets : Value} {od_meets an_meets : Option Addr} {osl_meets : Array (Option Value)} {f_looks : Addr} {oc_looks kV_looks doc_looks pm_looks cd_looks ct_looks : Value} {od_looks an_looks : Option Addr} {osl_looks : Array (Option Value)} {f_conds_of : Addr} {oc_conds_of kV_conds_of doc_conds_of pm_conds_of cd_conds_of ct_conds_of : Value} {od_conds_of an_conds_of : Option Addr} {osl_conds_of : Array (Option Value)} {f_done_job : Addr} {oc_done_job kV_done_job doc_done_job pm_done_job cd_done_job ct_done_job : Value} {od_done_job an_done_job : Option Addr} {osl_done_job : Array (Option Value)} {D_done_job : Addr} {f_refusal_of : Addr} {oc_refusal_of kV_refusal_of doc_refusal_of pm_refusal_of cd_refusal_of ct_refusal_of : Value} {od_refusal_of an_refusal_of : Option Addr} {osl_refusal_of : Array (Option Value)} {f_has_worth : Addr} {oc_has_worth kV_has_worth doc_has_worth pm_has_worth cd_has_worth ct_has_worth : Value} {od_has_worth an_has_worth : Option Addr} {osl_has_worth : Array (Option Value)} {f_row_linked : Addr} {oc_row_linked kV_row_linked doc_row_linked pm_row_linked cd_row_linked ct_row_linked : Value} {od_row_linked an_row_linked : Option Addr} {osl_row_linked : Array (Option Value)} {f_row_put : Addr} {oc_row_put kV_row_put doc_row_put pm_row_put cd_row_put ct_row_put : Value} {od_row_put an_row_put : Option Addr} {osl_row_put : Array (Option Value)} {f_put_done : Addr} {oc_put_done kV_put_done doc_put_done pm_put_done cd_put_done ct_put_done : Value} {od_put_done an_put_done : Option Addr} {osl_put_done : Array (Option Value)} {f_index_done : Addr} {oc_index_done kV_index_done doc_index_done pm_index_done cd_index_done ct_index_done : Value} {od_index_done an_index_done : Option Addr} {osl_index_done : Array (Option Value)} {f_row_done : Addr} {oc_row_done kV_row_done doc_row_done pm_row_done cd_row_done ct_row_done : Value} {od_row_done an_row_done : Option Addr} {osl_row_done : Array (Option Value)} {f_answer_of : Addr} {oc_answer_of kV_answer_of doc_answer_of pm_answer_of cd_answer_of ct_answer_of : Value} {od_answer_of an_answer_of : Option Addr} {osl_answer_of : Array (Option Value)} {f_answer_by : Addr} {oc_answer_by kV_answer_by doc_answer_by pm_answer_by cd_answer_by ct_answer_by : Value} {od_answer_by an_answer_by : Option Addr} {osl_answer_by : Array (Option Value)} {f_law_tape : Addr} {oc_law_tape kV_law_tape doc_law_tape pm_law_tape cd_law_tape ct_law_tape : Value} {od_law_tape an_law_tape : Option Addr} {osl_law_tape : Array (Option Value)} {f_law_pick : Addr} {oc_law_pick kV_law_pick doc_law_pick pm_law_pick cd_law_pick ct_law_pick : Value} {od_law_pick an_law_pick : Option Addr} {osl_law_pick : Array (Option Value)} {f_law_any : Addr} {oc_law_any kV_law_any doc_law_any pm_law_any cd_law_any ct_law_any : Value} {od_law_any an_law_any : Option Addr} {osl_law_any : Array (Option Value)} {f_law_rules : Addr} {oc_law_rules kV_law_rules doc_law_rules pm_law_rules cd_law_rules ct_law_rules : Value} {od_law_rules an_law_rules : Option Addr} {osl_law_rules : Array (Option Value)} {f_law_value : Addr} {oc_law_value kV_law_value doc_law_value pm_law_value cd_law_value ct_law_value : Value} {od_law_value an_law_value : Option Addr} {osl_law_value : Array (Option Value)} {f_law_deed : Addr} {oc_law_deed kV_law_deed doc_law_deed pm_law_deed cd_law_deed ct_law_deed : Value} {od_law_deed an_law_deed : Option Addr} {osl_law_deed : Array (Option Value)} {f_law_is_stray : Addr} {oc_law_is_stray kV_law_is_stray doc_law_is_stray pm_law_is_stray cd_law_is_stray ct_law_is_stray : Value} {od_law_is_stray an_law_is_stray : Option Addr} {osl_law_is_stray : Array (Option Value)} {f_law_breaks : Addr} {oc_law_breaks kV_law_breaks doc_law_breaks pm_law_breaks cd_law_breaks ct_law_breaks : Value} {od_law_breaks an_law_breaks : Option Addr} {osl_law_breaks : Array (Option Value)} {f_law_is_done : Addr} {oc_law_is_done kV_law_is_done doc_law_is_done pm_law_is_done cd_law_is_done ct_law_is_done : Value} {od_law_is_done an_law_is_done : Option Addr} {osl_law_is_done : Array (Option Value)} {f_law : Addr} {oc_law kV_law doc_law pm_law cd_law ct_law : Value} {od_law an_law : Option Addr} {osl_law : Array (Option Value)} {d_CHECKS : Addr} {es_CHECKS : Array DictEntry} {n_CHECKS : Nat} {h_CHECKS_0 : Int} {t_CHECKS_0 : Tok} {h_CHECKS_1 : Int} {t_CHECKS_1 : Tok} {h_CHECKS_2 : Int} {t_CHECKS_2 : Tok} {h_CHECKS_3 : Int} {t_CHECKS_3 : Tok} {h_CHECKS_4 : Int} {t_CHECKS_4 : Tok} {h_CHECKS_5 : Int} {t_CHECKS_5 : Tok} {h_CHECKS_6 : Int} {t_CHECKS_6 : Tok} {h_CHECKS_7 : Int} {t_CHECKS_7 : Tok} {h_CHECKS_8 : Int} {t_CHECKS_8 : Tok} {h_CHECKS_9 : Int} {t_CHECKS_9 : Tok}
    (c_SMALL_LETTERS : PySem.W.nsIn K mainGlobals "SMALL_LETTERS" = some (some (.str "abcdefghijklmnopqrstuvwxyz" t_SMALL_LETTERS)))
    (c_MOST_LETTERS : PySem.W.nsIn K mainGlobals "MOST_LETTERS" = some (some (.int (8) t_MOST_LETTERS)))
    (c_MOST_SIGNS : PySem.W.nsIn K mainGlobals "MOST_SIGNS" = some (some (.int (12) t_MOST_SIGNS)))
    (c_FIRST_SIGN : PySem.W.nsIn K mainGlobals "FIRST_SIGN" = some (some (.int (32) t_FIRST_SIGN)))
    (c_LAST_SIGN : PySem.W.nsIn K mainGlobals "LAST_SIGN" = some (some (.int (126) t_LAST_SIGN)))
    (c_BARRED_SIGN : PySem.W.nsIn K mainGlobals "BARRED_SIGN" = some (some (.int (37) t_BARRED_SIGN)))
    (c_SIGNS : PySem.W.nsIn K mainGlobals "SIGNS" = some (some (.ref a_SIGNS)))
    (l_SIGNS : K.lookup a_SIGNS = some o_SIGNS)
    (k_SIGNS : o_SIGNS.cls = .type "tuple")
    (nd_SIGNS : o_SIGNS.dict = none)
    (d_SIGNS : o_SIGNS.data = .seq (List.toArray [.str "=" t_SIGNS_0, .str "<" t_SIGNS_1, .str ">" t_SIGNS_2]) n_SIGNS)
    (c_ASKS : PySem.W.nsIn K mainGlobals "ASKS" = some (some (.ref d_ASKS)))
    (l_ASKS : K.lookup d_ASKS = some ⟨.type "dict", none, .dict es_ASKS n_ASKS, #[]⟩)
    (e_ASKS : es_ASKS.toList = [⟨h_ASKS_0, .str "get" t_ASKS_0, .ref a_ASKS_0⟩, ⟨h_ASKS_1, .str "rows" t_ASKS_1, .ref a_ASKS_1⟩, ⟨h_ASKS_2, .str "count" t_ASKS_2, .ref a_ASKS_2⟩, ⟨h_ASKS_3, .str "sum" t_ASKS_3, .ref a_ASKS_3⟩, ⟨h_ASKS_4, .str "follow" t_ASKS_4, .ref a_ASKS_4⟩])
    (s_ASKS : (d_ASKS == sysModules) = false)
    (hh_ASKS_0 : h_ASKS_0 = PyData.keyHash w.params "get")
    (hh_ASKS_1 : h_ASKS_1 = PyData.keyHash w.params "rows")
    (hh_ASKS_2 : h_ASKS_2 = PyData.keyHash w.params "count")
    (hh_ASKS_3 : h_ASKS_3 = PyData.keyHash w.params "sum")
    (hh_ASKS_4 : h_ASKS_4 = PyData.keyHash w.params "follow")
    (l_ASKS_0 : K.lookup a_ASKS_0 = some o_ASKS_0)
    (k_ASKS_0 : o_ASKS_0.cls = .type "tuple")
    (nd_ASKS_0 : o_ASKS_0.dict = none)
    (dd_ASKS_0 : o_ASKS_0.data = .seq (List.toArray [.str "table" t_ASKS_0_0, .str "id" t_ASKS_0_1]) n_ASKS_0)
    (l_ASKS_1 : K.lookup a_ASKS_1 = some o_ASKS_1)
    (k_ASKS_1 : o_ASKS_1.cls = .type "tuple")
    (nd_ASKS_1 : o_ASKS_1.dict = none)
    (dd_ASKS_1 : o_ASKS_1.data = .seq (List.toArray [.str "table" t_ASKS_1_0, .str "conds" t_ASKS_1_1, .str "most" t_ASKS_1_2]) n_ASKS_1)
    (l_ASKS_2 : K.lookup a_ASKS_2 = some o_ASKS_2)
    (k_ASKS_2 : o_ASKS_2.cls = .type "tuple")
    (nd_ASKS_2 : o_ASKS_2.dict = none)
    (dd_ASKS_2 : o_ASKS_2.data = .seq (List.toArray [.str "table" t_ASKS_2_0, .str "conds" t_ASKS_2_1]) n_ASKS_2)
    (l_ASKS_3 : K.lookup a_ASKS_3 = some o_ASKS_3)
    (k_ASKS_3 : o_ASKS_3.cls = .type "tuple")
    (nd_ASKS_3 : o_ASKS_3.dict = none)
    (dd_ASKS_3 : o_ASKS_3.data = .seq (List.toArray [.str "table" t_ASKS_3_0, .str "k" t_ASKS_3_1, .str "conds" t_ASKS_3_2]) n_ASKS_3)
    (l_ASKS_4 : K.lookup a_ASKS_4 = some o_ASKS_4)
    (k_ASKS_4 : o_ASKS_4.cls = .type "tuple")
    (nd_ASKS_4 : o_ASKS_4.dict = none)
    (dd_ASKS_4 : o_ASKS_4.data = .seq (List.toArray [.str "table" t_ASKS_4_0, .str "id" t_ASKS_4_1, .str "k" t_ASKS_4_2]) n_ASKS_4)
    (b_all : PySem.W.nsIn K mainGlobals "all" = some none)
    (b_bool : PySem.W.nsIn K mainGlobals "bool" = some none)
    (b_int : PySem.W.nsIn K mainGlobals "int" = some none)
    (b_isinstance : PySem.W.nsIn K mainGlobals "isinstance" = some none)
    (b_len : PySem.W.nsIn K mainGlobals "len" = some none)
    (b_list : PySem.W.nsIn K mainGlobals "list" = some none)
    (b_max : PySem.W.nsIn K mainGlobals "max" = some none)
    (b_ord : PySem.W.nsIn K mainGlobals "ord" = some none)
    (b_range : PySem.W.nsIn K mainGlobals "range" = some none)
    (b_repr : PySem.W.nsIn K mainGlobals "repr" = some none)
    (b_set : PySem.W.nsIn K mainGlobals "set" = some none)
    (b_sorted : PySem.W.nsIn K mainGlobals "sorted" = some none)
    (b_str : PySem.W.nsIn K mainGlobals "str" = some none)
    (b_sum : PySem.W.nsIn K mainGlobals "sum" = some none)
    (b_tuple : PySem.W.nsIn K mainGlobals "tuple" = some none)
    (b_zip : PySem.W.nsIn K mainGlobals "zip" = some none)
    (c_is_whole : PySem.W.nsIn K mainGlobals "is_whole" = some (some (.ref f_is_whole)))
    (l_is_whole : K.lookup f_is_whole = some ⟨oc_is_whole, od_is_whole, .func (PySem.W.fnOf "is_whole" "is_whole" (defArgs s_is_whole) (defBody s_is_whole) (defScope s_is_whole) .none kV_is_whole doc_is_whole pm_is_whole an_is_whole cd_is_whole ct_is_whole), osl_is_whole⟩)
    (q_is_whole : PySem.W.codeIn K cd_is_whole "is_whole" = true)
    (k_is_whole : PySem.W.keepIn K (.ref f_is_whole) = true)
    (c_is_number : PySem.W.nsIn K mainGlobals "is_number" = some (some (.ref f_is_number)))
    (l_is_number : K.lookup f_is_number = some ⟨oc_is_number, od_is_number, .func (PySem.W.fnOf "is_number" "is_number" (defArgs s_is_number) (defBody s_is_number) (defScope s_is_number) .none kV_is_number doc_is_number pm_is_number an_is_number cd_is_number ct_is_number), osl_is_number⟩)
    (q_is_number : PySem.W.codeIn K cd_is_number "is_number" = true)
    (k_is_number : PySem.W.keepIn K (.ref f_is_number) = true)
    (c_is_from_one : PySem.W.nsIn K mainGlobals "is_from_one" = some (some (.ref f_is_from_one)))
    (l_is_from_one : K.lookup f_is_from_one = some ⟨oc_is_from_one, od_is_from_one, .func (PySem.W.fnOf "is_from_one" "is_from_one" (defArgs s_is_from_one) (defBody s_is_from_one) (defScope s_is_from_one) .none kV_is_from_one doc_is_from_one pm_is_from_one an_is_from_one cd_is_from_one ct_is_from_one), osl_is_from_one⟩)
    (q_is_from_one : PySem.W.codeIn K cd_is_from_one "is_from_one" = true)
    (k_is_from_one : PySem.W.keepIn K (.ref f_is_from_one) = true)
    (c_is_word : PySem.W.nsIn K mainGlobals "is_word" = some (some (.ref f_is_word)))
    (l_is_word : K.lookup f_is_word = some ⟨oc_is_word, od_is_word, .func (PySem.W.fnOf "is_word" "is_word" (defArgs s_is_word) (defBody s_is_word) (defScope s_is_word) .none kV_is_word doc_is_word pm_is_word an_is_word cd_is_word ct_is_word), osl_is_word⟩)
    (q_is_word : PySem.W.codeIn K cd_is_word "is_word" = true)
    (k_is_word : PySem.W.keepIn K (.ref f_is_word) = true)
    (c_is_said_text : PySem.W.nsIn K mainGlobals "is_said_text" = some (some (.ref f_is_said_text)))
    (l_is_said_text : K.lookup f_is_said_text = some ⟨oc_is_said_text, od_is_said_text, .func (PySem.W.fnOf "is_said_text" "is_said_text" (defArgs s_is_said_text) (defBody s_is_said_text) (defScope s_is_said_text) .none kV_is_said_text doc_is_said_text pm_is_said_text an_is_said_text cd_is_said_text ct_is_said_text), osl_is_said_text⟩)
    (q_is_said_text : PySem.W.codeIn K cd_is_said_text "is_said_text" = true)
    (k_is_said_text : PySem.W.keepIn K (.ref f_is_said_text) = true)
    (c_is_tuple_of : PySem.W.nsIn K mainGlobals "is_tuple_of" = some (some (.ref f_is_tuple_of)))
    (l_is_tuple_of : K.lookup f_is_tuple_of = some ⟨oc_is_tuple_of, od_is_tuple_of, .func (PySem.W.fnOf "is_tuple_of" "is_tuple_of" (defArgs s_is_tuple_of) (defBody s_is_tuple_of) (defScope s_is_tuple_of) .none kV_is_tuple_of doc_is_tuple_of pm_is_tuple_of an_is_tuple_of cd_is_tuple_of ct_is_tuple_of), osl_is_tuple_of⟩)
    (q_is_tuple_of : PySem.W.codeIn K cd_is_tuple_of "is_tuple_of" = true)
    (k_is_tuple_of : PySem.W.keepIn K (.ref f_is_tuple_of) = true)
    (c_is_said : PySem.W.nsIn K mainGlobals "is_said" = some (some (.ref f_is_said)))
    (l_is_said : K.lookup f_is_said = some ⟨oc_is_said, od_is_said, .func (PySem.W.fnOf "is_said" "is_said" (defArgs s_is_said) (defBody s_is_said) (defScope s_is_said) .none kV_is_said doc_is_said pm_is_said an_is_said cd_is_said ct_is_said), osl_is_said⟩)
    (q_is_said : PySem.W.codeIn K cd_is_said "is_said" = true)
    (k_is_said : PySem.W.keepIn K (.ref f_is_said) = true)
    (c_is_link : PySem.W.nsIn K mainGlobals "is_link" = some (some (.ref f_is_link)))
    (l_is_link : K.lookup f_is_link = some ⟨oc_is_link, od_is_link, .func (PySem.W.fnOf "is_link" "is_link" (defArgs s_is_link) (defBody s_is_link) (defScope s_is_link) .none kV_is_link doc_is_link pm_is_link an_is_link cd_is_link ct_is_link), osl_is_link⟩)
    (q_is_link : PySem.W.codeIn K cd_is_link "is_link" = true)
    (k_is_link : PySem.W.keepIn K (.ref f_is_link) = true)
    (c_is_value : PySem.W.nsIn K mainGlobals "is_value" = some (some (.ref f_is_value)))
    (l_is_value : K.lookup f_is_value = some ⟨oc_is_value, od_is_value, .func (PySem.W.fnOf "is_value" "is_value" (defArgs s_is_value) (defBody s_is_value) (defScope s_is_value) .none kV_is_value doc_is_value pm_is_value an_is_value cd_is_value ct_is_value), osl_is_value⟩)
    (q_is_value : PySem.W.codeIn K cd_is_value "is_value" = true)
    (k_is_value : PySem.W.keepIn K (.ref f_is_value) = true)
    (c_are_worths : PySem.W.nsIn K mainGlobals "are_worths" = some (some (.ref f_are_worths)))
    (l_are_worths : K.lookup f_are_worths = some ⟨oc_are_worths, od_are_worths, .func (PySem.W.fnOf "are_worths" "are_worths" (defArgs s_are_worths) (defBody s_are_worths) (defScope s_are_worths) .none kV_are_worths doc_are_worths pm_are_worths an_are_worths cd_are_worths ct_are_worths), osl_are_worths⟩)
    (q_are_worths : PySem.W.codeIn K cd_are_worths "are_worths" = true)
    (k_are_worths : PySem.W.keepIn K (.ref f_are_worths) = true)
    (c_is_cond : PySem.W.nsIn K mainGlobals "is_cond" = some (some (.ref f_is_cond)))
    (l_is_cond : K.lookup f_is_cond = some ⟨oc_is_cond, od_is_cond, .func (PySem.W.fnOf "is_cond" "is_cond" (defArgs s_is_cond) (defBody s_is_cond) (defScope s_is_cond) .none kV_is_cond doc_is_cond pm_is_cond an_is_cond cd_is_cond ct_is_cond), osl_is_cond⟩)
    (q_is_cond : PySem.W.codeIn K cd_is_cond "is_cond" = true)
    (k_is_cond : PySem.W.keepIn K (.ref f_is_cond) = true)
    (c_are_conds : PySem.W.nsIn K mainGlobals "are_conds" = some (some (.ref f_are_conds)))
    (l_are_conds : K.lookup f_are_conds = some ⟨oc_are_conds, od_are_conds, .func (PySem.W.fnOf "are_conds" "are_conds" (defArgs s_are_conds) (defBody s_are_conds) (defScope s_are_conds) .none kV_are_conds doc_are_conds pm_are_conds an_are_conds cd_are_conds ct_are_conds), osl_are_conds⟩)
    (q_are_conds : PySem.W.codeIn K cd_are_conds "are_conds" = true)
    (k_are_conds : PySem.W.keepIn K (.ref f_are_conds) = true)
    (c_fits : PySem.W.nsIn K mainGlobals "fits" = some (some (.ref f_fits)))
    (l_fits : K.lookup f_fits = some ⟨oc_fits, od_fits, .func (PySem.W.fnOf "fits" "fits" (defArgs s_fits) (defBody s_fits) (defScope s_fits) .none kV_fits doc_fits pm_fits an_fits cd_fits ct_fits), osl_fits⟩)
    (q_fits : PySem.W.codeIn K cd_fits "fits" = true)
    (k_fits : PySem.W.keepIn K (.ref f_fits) = true)
    (c_are_parts : PySem.W.nsIn K mainGlobals "are_parts" = some (some (.ref f_are_parts)))
    (l_are_parts : K.lookup f_are_parts = some ⟨oc_are_parts, od_are_parts, .func (PySem.W.fnOf "are_parts" "are_parts" (defArgs s_are_parts) (defBody s_are_parts) (defScope s_are_parts) .none kV_are_parts doc_are_parts pm_are_parts an_are_parts cd_are_parts ct_are_parts), osl_are_parts⟩)
    (q_are_parts : PySem.W.codeIn K cd_are_parts "are_parts" = true)
    (k_are_parts : PySem.W.keepIn K (.ref f_are_parts) = true)
    (c_begins_with_text : PySem.W.nsIn K mainGlobals "begins_with_text" = some (some (.ref f_begins_with_text)))
    (l_begins_with_text : K.lookup f_begins_with_text = some ⟨oc_begins_with_text, od_begins_with_text, .func (PySem.W.fnOf "begins_with_text" "begins_with_text" (defArgs s_begins_with_text) (defBody s_begins_with_text) (defScope s_begins_with_text) .none kV_begins_with_text doc_begins_with_text pm_begins_with_text an_begins_with_text cd_begins_with_text ct_begins_with_text), osl_begins_with_text⟩)
    (q_begins_with_text : PySem.W.codeIn K cd_begins_with_text "begins_with_text" = true)
    (k_begins_with_text : PySem.W.keepIn K (.ref f_begins_with_text) = true)
    (c_is_ask : PySem.W.nsIn K mainGlobals "is_ask" = some (some (.ref f_is_ask)))
    (l_is_ask : K.lookup f_is_ask = some ⟨oc_is_ask, od_is_ask, .func (PySem.W.fnOf "is_ask" "is_ask" (defArgs s_is_ask) (defBody s_is_ask) (defScope s_is_ask) .none kV_is_ask doc_is_ask pm_is_ask an_is_ask cd_is_ask ct_is_ask), osl_is_ask⟩)
    (q_is_ask : PySem.W.codeIn K cd_is_ask "is_ask" = true)
    (k_is_ask : PySem.W.keepIn K (.ref f_is_ask) = true)
    (c_is_refusal : PySem.W.nsIn K mainGlobals "is_refusal" = some (some (.ref f_is_refusal)))
    (l_is_refusal : K.lookup f_is_refusal = some ⟨oc_is_refusal, od_is_refusal, .func (PySem.W.fnOf "is_refusal" "is_refusal" (defArgs s_is_refusal) (defBody s_is_refusal) (defScope s_is_refusal) .none kV_is_refusal doc_is_refusal pm_is_refusal an_is_refusal cd_is_refusal ct_is_refusal), osl_is_refusal⟩)
    (q_is_refusal : PySem.W.codeIn K cd_is_refusal "is_refusal" = true)
    (k_is_refusal : PySem.W.keepIn K (.ref f_is_refusal) = true)
    (c_tables_of : PySem.W.nsIn K mainGlobals "tables_of" = some (some (.ref f_tables_of)))
    (l_tables_of : K.lookup f_tables_of = some ⟨oc_tables_of, od_tables_of, .func (PySem.W.fnOf "tables_of" "tables_of" (defArgs s_tables_of) (defBody s_tables_of) (defScope s_tables_of) .none kV_tables_of doc_tables_of pm_tables_of an_tables_of cd_tables_of ct_tables_of), osl_tables_of⟩)
    (q_tables_of : PySem.W.codeIn K cd_tables_of "tables_of" = true)
    (k_tables_of : PySem.W.keepIn K (.ref f_tables_of) = true)
    (c_has_table : PySem.W.nsIn K mainGlobals "has_table" = some (some (.ref f_has_table)))
    (l_has_table : K.lookup f_has_table = some ⟨oc_has_table, od_has_table, .func (PySem.W.fnOf "has_table" "has_table" (defArgs s_has_table) (defBody s_has_table) (defScope s_has_table) .none kV_has_table doc_has_table pm_has_table an_has_table cd_has_table ct_has_table), osl_has_table⟩)
    (q_has_table : PySem.W.codeIn K cd_has_table "has_table" = true)
    (k_has_table : PySem.W.keepIn K (.ref f_has_table) = true)
    (c_table_in : PySem.W.nsIn K mainGlobals "table_in" = some (some (.ref f_table_in)))
    (l_table_in : K.lookup f_table_in = some ⟨oc_table_in, od_table_in, .func (PySem.W.fnOf "table_in" "table_in" (defArgs s_table_in) (defBody s_table_in) (defScope s_table_in) .none kV_table_in doc_table_in pm_table_in an_table_in cd_table_in ct_table_in), osl_table_in⟩)
    (q_table_in : PySem.W.codeIn K cd_table_in "table_in" = true)
    (k_table_in : PySem.W.keepIn K (.ref f_table_in) = true)
    (c_rows_of : PySem.W.nsIn K mainGlobals "rows_of" = some (some (.ref f_rows_of)))
    (l_rows_of : K.lookup f_rows_of = some ⟨oc_rows_of, od_rows_of, .func (PySem.W.fnOf "rows_of" "rows_of" (defArgs s_rows_of) (defBody s_rows_of) (defScope s_rows_of) .none kV_rows_of doc_rows_of pm_rows_of an_rows_of cd_rows_of ct_rows_of), osl_rows_of⟩)
    (q_rows_of : PySem.W.codeIn K cd_rows_of "rows_of" = true)
    (k_rows_of : PySem.W.keepIn K (.ref f_rows_of) = true)
    (c_row_of : PySem.W.nsIn K mainGlobals "row_of" = some (some (.ref f_row_of)))
    (l_row_of : K.lookup f_row_of = some ⟨oc_row_of, od_row_of, .func (PySem.W.fnOf "row_of" "row_of" (defArgs s_row_of) (defBody s_row_of) (defScope s_row_of) .none kV_row_of doc_row_of pm_row_of an_row_of cd_row_of ct_row_of), osl_row_of⟩)
    (q_row_of : PySem.W.codeIn K cd_row_of "row_of" = true)
    (k_row_of : PySem.W.keepIn K (.ref f_row_of) = true)
    (c_with_table : PySem.W.nsIn K mainGlobals "with_table" = some (some (.ref f_with_table)))
    (l_with_table : K.lookup f_with_table = some ⟨oc_with_table, od_with_table, .func (PySem.W.fnOf "with_table" "with_table" (defArgs s_with_table) (defBody s_with_table) (defScope s_with_table) .none kV_with_table doc_with_table pm_with_table an_with_table cd_with_table ct_with_table), osl_with_table⟩)
    (q_with_table : PySem.W.codeIn K cd_with_table "with_table" = true)
    (k_with_table : PySem.W.keepIn K (.ref f_with_table) = true)
    (c_row_turned : PySem.W.nsIn K mainGlobals "row_turned" = some (some (.ref f_row_turned)))
    (l_row_turned : K.lookup f_row_turned = some ⟨oc_row_turned, od_row_turned, .func (PySem.W.fnOf "row_turned" "row_turned" (defArgs s_row_turned) (defBody s_row_turned) (defScope s_row_turned) .none kV_row_turned doc_row_turned pm_row_turned an_row_turned cd_row_turned ct_row_turned), osl_row_turned⟩)
    (q_row_turned : PySem.W.codeIn K cd_row_turned "row_turned" = true)
    (k_row_turned : PySem.W.keepIn K (.ref f_row_turned) = true)
    (c_link_at : PySem.W.nsIn K mainGlobals "link_at" = some (some (.ref f_link_at)))
    (l_link_at : K.lookup f_link_at = some ⟨oc_link_at, od_link_at, .func (PySem.W.fnOf "link_at" "link_at" (defArgs s_link_at) (defBody s_link_at) (defScope s_link_at) .none kV_link_at doc_link_at pm_link_at an_link_at cd_link_at ct_link_at), osl_link_at⟩)
    (q_link_at : PySem.W.codeIn K cd_link_at "link_at" = true)
    (k_link_at : PySem.W.keepIn K (.ref f_link_at) = true)
    (c_rule_of : PySem.W.nsIn K mainGlobals "rule_of" = some (some (.ref f_rule_of)))
    (l_rule_of : K.lookup f_rule_of = some ⟨oc_rule_of, od_rule_of, .func (PySem.W.fnOf "rule_of" "rule_of" (defArgs s_rule_of) (defBody s_rule_of) (defScope s_rule_of) .none kV_rule_of doc_rule_of pm_rule_of an_rule_of cd_rule_of ct_rule_of), osl_rule_of⟩)
    (q_rule_of : PySem.W.codeIn K cd_rule_of "rule_of" = true)
    (k_rule_of : PySem.W.keepIn K (.ref f_rule_of) = true)
    (c_is_kept : PySem.W.nsIn K mainGlobals "is_kept" = some (some (.ref f_is_kept)))
    (l_is_kept : K.lookup f_is_kept = some ⟨oc_is_kept, od_is_kept, .func (PySem.W.fnOf "is_kept" "is_kept" (defArgs s_is_kept) (defBody s_is_kept) (defScope s_is_kept) .none kV_is_kept doc_is_kept pm_is_kept an_is_kept cd_is_kept ct_is_kept), osl_is_kept⟩)
    (q_is_kept : PySem.W.codeIn K cd_is_kept "is_kept" = true)
    (k_is_kept : PySem.W.keepIn K (.ref f_is_kept) = true)
    (c_is_stray : PySem.W.nsIn K mainGlobals "is_stray" = some (some (.ref f_is_stray)))
    (l_is_stray : K.lookup f_is_stray = some ⟨oc_is_stray, od_is_stray, .func (PySem.W.fnOf "is_stray" "is_stray" (defArgs s_is_stray) (defBody s_is_stray) (defScope s_is_stray) .none kV_is_stray doc_is_stray pm_is_stray an_is_stray cd_is_stray ct_is_stray), osl_is_stray⟩)
    (q_is_stray : PySem.W.codeIn K cd_is_stray "is_stray" = true)
    (k_is_stray : PySem.W.keepIn K (.ref f_is_stray) = true)
    (c_broken_by : PySem.W.nsIn K mainGlobals "broken_by" = some (some (.ref f_broken_by)))
    (l_broken_by : K.lookup f_broken_by = some ⟨oc_broken_by, od_broken_by, .func (PySem.W.fnOf "broken_by" "broken_by" (defArgs s_broken_by) (defBody s_broken_by) (defScope s_broken_by) .none kV_broken_by doc_broken_by pm_broken_by an_broken_by cd_broken_by ct_broken_by), osl_broken_by⟩)
    (q_broken_by : PySem.W.codeIn K cd_broken_by "broken_by" = true)
    (k_broken_by : PySem.W.keepIn K (.ref f_broken_by) = true)
    (D1_broken_by : kV_broken_by = .ref D_broken_by)
    (D2_broken_by_rules : PySem.W.nsIn K D_broken_by "rules" = some (some (.ref a_dv_broken_by_rules)))
    (l_dv_broken_by_rules : K.lookup a_dv_broken_by_rules = some o_dv_broken_by_rules)
    (k_dv_broken_by_rules : o_dv_broken_by_rules.cls = .type "tuple")
    (nd_dv_broken_by_rules : o_dv_broken_by_rules.dict = none)
    (d_dv_broken_by_rules : o_dv_broken_by_rules.data = .seq (List.toArray []) n_dv_broken_by_rules)
    (c_same : PySem.W.nsIn K mainGlobals "same" = some (some (.ref f_same)))
    (l_same : K.lookup f_same = some ⟨oc_same, od_same, .func (PySem.W.fnOf "same" "same" (defArgs s_same) (defBody s_same) (defScope s_same) .none kV_same doc_same pm_same an_same cd_same ct_same), osl_same⟩)
    (q_same : PySem.W.codeIn K cd_same "same" = true)
    (k_same : PySem.W.keepIn K (.ref f_same) = true)
    (c_are_same : PySem.W.nsIn K mainGlobals "are_same" = some (some (.ref f_are_same)))
    (l_are_same : K.lookup f_are_same = some ⟨oc_are_same, od_are_same, .func (PySem.W.fnOf "are_same" "are_same" (defArgs s_are_same) (defBody s_are_same) (defScope s_are_same) .none kV_are_same doc_are_same pm_are_same an_are_same cd_are_same ct_are_same), osl_are_same⟩)
    (q_are_same : PySem.W.codeIn K cd_are_same "are_same" = true)
    (k_are_same : PySem.W.keepIn K (.ref f_are_same) = true)
    (c_meets_cond : PySem.W.nsIn K mainGlobals "meets_cond" = some (some (.ref f_meets_cond)))
    (l_meets_cond : K.lookup f_meets_cond = some ⟨oc_meets_cond, od_meets_cond, .func (PySem.W.fnOf "meets_cond" "meets_cond" (defArgs s_meets_cond) (defBody s_meets_cond) (defScope s_meets_cond) .none kV_meets_cond doc_meets_cond pm_meets_cond an_meets_cond cd_meets_cond ct_meets_cond), osl_meets_cond⟩)
    (q_meets_cond : PySem.W.codeIn K cd_meets_cond "meets_cond" = true)
    (k_meets_cond : PySem.W.keepIn K (.ref f_meets_cond) = true)
    (c_meets : PySem.W.nsIn K mainGlobals "meets" = some (some (.ref f_meets)))
    (l_meets : K.lookup f_meets = some ⟨oc_meets, od_meets, .func (PySem.W.fnOf "meets" "meets" (defArgs s_meets) (defBody s_meets) (defScope s_meets) .none kV_meets doc_meets pm_meets an_meets cd_meets ct_meets), osl_meets⟩)
    (q_meets : PySem.W.codeIn K cd_meets "meets" = true)
    (k_meets : PySem.W.keepIn K (.ref f_meets) = true)
    (c_looks : PySem.W.nsIn K mainGlobals "looks" = some (some (.ref f_looks)))
    (l_looks : K.lookup f_looks = some ⟨oc_looks, od_looks, .func (PySem.W.fnOf "looks" "looks" (defArgs s_looks) (defBody s_looks) (defScope s_looks) .none kV_looks doc_looks pm_looks an_looks cd_looks ct_looks), osl_looks⟩)
    (q_looks : PySem.W.codeIn K cd_looks "looks" = true)
    (k_looks : PySem.W.keepIn K (.ref f_looks) = true)
    (c_conds_of : PySem.W.nsIn K mainGlobals "conds_of" = some (some (.ref f_conds_of)))
    (l_conds_of : K.lookup f_conds_of = some ⟨oc_conds_of, od_conds_of, .func (PySem.W.fnOf "conds_of" "conds_of" (defArgs s_conds_of) (defBody s_conds_of) (defScope s_conds_of) .none kV_conds_of doc_conds_of pm_conds_of an_conds_of cd_conds_of ct_conds_of), osl_conds_of⟩)
    (q_conds_of : PySem.W.codeIn K cd_conds_of "conds_of" = true)
    (k_conds_of : PySem.W.keepIn K (.ref f_conds_of) = true)
    (c_done_job : PySem.W.nsIn K mainGlobals "done_job" = some (some (.ref f_done_job)))
    (l_done_job : K.lookup f_done_job = some ⟨oc_done_job, od_done_job, .func (PySem.W.fnOf "done_job" "done_job" (defArgs s_done_job) (defBody s_done_job) (defScope s_done_job) .none kV_done_job doc_done_job pm_done_job an_done_job cd_done_job ct_done_job), osl_done_job⟩)
    (q_done_job : PySem.W.codeIn K cd_done_job "done_job" = true)
    (k_done_job : PySem.W.keepIn K (.ref f_done_job) = true)
    (D1_done_job : kV_done_job = .ref D_done_job)
    (D2_done_job_rules : PySem.W.nsIn K D_done_job "rules" = some (some (.ref a_dv_done_job_rules)))
    (l_dv_done_job_rules : K.lookup a_dv_done_job_rules = some o_dv_done_job_rules)
    (k_dv_done_job_rules : o_dv_done_job_rules.cls = .type "tuple")
    (nd_dv_done_job_rules : o_dv_done_job_rules.dict = none)
    (d_dv_done_job_rules : o_dv_done_job_rules.data = .seq (List.toArray []) n_dv_done_job_rules)
    (c_refusal_of : PySem.W.nsIn K mainGlobals "refusal_of" = some (some (.ref f_refusal_of)))
    (l_refusal_of : K.lookup f_refusal_of = some ⟨oc_refusal_of, od_refusal_of, .func (PySem.W.fnOf "refusal_of" "refusal_of" (defArgs s_refusal_of) (defBody s_refusal_of) (defScope s_refusal_of) .none kV_refusal_of doc_refusal_of pm_refusal_of an_refusal_of cd_refusal_of ct_refusal_of), osl_refusal_of⟩)
    (q_refusal_of : PySem.W.codeIn K cd_refusal_of "refusal_of" = true)
    (k_refusal_of : PySem.W.keepIn K (.ref f_refusal_of) = true)
    (c_has_worth : PySem.W.nsIn K mainGlobals "has_worth" = some (some (.ref f_has_worth)))
    (l_has_worth : K.lookup f_has_worth = some ⟨oc_has_worth, od_has_worth, .func (PySem.W.fnOf "has_worth" "has_worth" (defArgs s_has_worth) (defBody s_has_worth) (defScope s_has_worth) .none kV_has_worth doc_has_worth pm_has_worth an_has_worth cd_has_worth ct_has_worth), osl_has_worth⟩)
    (q_has_worth : PySem.W.codeIn K cd_has_worth "has_worth" = true)
    (k_has_worth : PySem.W.keepIn K (.ref f_has_worth) = true)
    (c_row_linked : PySem.W.nsIn K mainGlobals "row_linked" = some (some (.ref f_row_linked)))
    (l_row_linked : K.lookup f_row_linked = some ⟨oc_row_linked, od_row_linked, .func (PySem.W.fnOf "row_linked" "row_linked" (defArgs s_row_linked) (defBody s_row_linked) (defScope s_row_linked) .none kV_row_linked doc_row_linked pm_row_linked an_row_linked cd_row_linked ct_row_linked), osl_row_linked⟩)
    (q_row_linked : PySem.W.codeIn K cd_row_linked "row_linked" = true)
    (k_row_linked : PySem.W.keepIn K (.ref f_row_linked) = true)
    (c_row_put : PySem.W.nsIn K mainGlobals "row_put" = some (some (.ref f_row_put)))
    (l_row_put : K.lookup f_row_put = some ⟨oc_row_put, od_row_put, .func (PySem.W.fnOf "row_put" "row_put" (defArgs s_row_put) (defBody s_row_put) (defScope s_row_put) .none kV_row_put doc_row_put pm_row_put an_row_put cd_row_put ct_row_put), osl_row_put⟩)
    (q_row_put : PySem.W.codeIn K cd_row_put "row_put" = true)
    (k_row_put : PySem.W.keepIn K (.ref f_row_put) = true)
    (c_put_done : PySem.W.nsIn K mainGlobals "put_done" = some (some (.ref f_put_done)))
    (l_put_done : K.lookup f_put_done = some ⟨oc_put_done, od_put_done, .func (PySem.W.fnOf "put_done" "put_done" (defArgs s_put_done) (defBody s_put_done) (defScope s_put_done) .none kV_put_done doc_put_done pm_put_done an_put_done cd_put_done ct_put_done), osl_put_done⟩)
    (q_put_done : PySem.W.codeIn K cd_put_done "put_done" = true)
    (k_put_done : PySem.W.keepIn K (.ref f_put_done) = true)
    (c_index_done : PySem.W.nsIn K mainGlobals "index_done" = some (some (.ref f_index_done)))
    (l_index_done : K.lookup f_index_done = some ⟨oc_index_done, od_index_done, .func (PySem.W.fnOf "index_done" "index_done" (defArgs s_index_done) (defBody s_index_done) (defScope s_index_done) .none kV_index_done doc_index_done pm_index_done an_index_done cd_index_done ct_index_done), osl_index_done⟩)
    (q_index_done : PySem.W.codeIn K cd_index_done "index_done" = true)
    (k_index_done : PySem.W.keepIn K (.ref f_index_done) = true)
    (c_row_done : PySem.W.nsIn K mainGlobals "row_done" = some (some (.ref f_row_done)))
    (l_row_done : K.lookup f_row_done = some ⟨oc_row_done, od_row_done, .func (PySem.W.fnOf "row_done" "row_done" (defArgs s_row_done) (defBody s_row_done) (defScope s_row_done) .none kV_row_done doc_row_done pm_row_done an_row_done cd_row_done ct_row_done), osl_row_done⟩)
    (q_row_done : PySem.W.codeIn K cd_row_done "row_done" = true)
    (k_row_done : PySem.W.keepIn K (.ref f_row_done) = true)
    (c_answer_of : PySem.W.nsIn K mainGlobals "answer_of" = some (some (.ref f_answer_of)))
    (l_answer_of : K.lookup f_answer_of = some ⟨oc_answer_of, od_answer_of, .func (PySem.W.fnOf "answer_of" "answer_of" (defArgs s_answer_of) (defBody s_answer_of) (defScope s_answer_of) .none kV_answer_of doc_answer_of pm_answer_of an_answer_of cd_answer_of ct_answer_of), osl_answer_of⟩)
    (q_answer_of : PySem.W.codeIn K cd_answer_of "answer_of" = true)
    (k_answer_of : PySem.W.keepIn K (.ref f_answer_of) = true)
    (c_answer_by : PySem.W.nsIn K mainGlobals "answer_by" = some (some (.ref f_answer_by)))
    (l_answer_by : K.lookup f_answer_by = some ⟨oc_answer_by, od_answer_by, .func (PySem.W.fnOf "answer_by" "answer_by" (defArgs s_answer_by) (defBody s_answer_by) (defScope s_answer_by) .none kV_answer_by doc_answer_by pm_answer_by an_answer_by cd_answer_by ct_answer_by), osl_answer_by⟩)
    (q_answer_by : PySem.W.codeIn K cd_answer_by "answer_by" = true)
    (k_answer_by : PySem.W.keepIn K (.ref f_answer_by) = true)
    (c_law_tape : PySem.W.nsIn K mainGlobals "_law_tape" = some (some (.ref f_law_tape)))
    (l_law_tape : K.lookup f_law_tape = some ⟨oc_law_tape, od_law_tape, .func (PySem.W.fnOf "_law_tape" "_law_tape" (defArgs s_law_tape) (defBody s_law_tape) (defScope s_law_tape) .none kV_law_tape doc_law_tape pm_law_tape an_law_tape cd_law_tape ct_law_tape), osl_law_tape⟩)
    (q_law_tape : PySem.W.codeIn K cd_law_tape "_law_tape" = true)
    (k_law_tape : PySem.W.keepIn K (.ref f_law_tape) = true)
    (c_law_pick : PySem.W.nsIn K mainGlobals "_law_pick" = some (some (.ref f_law_pick)))
    (l_law_pick : K.lookup f_law_pick = some ⟨oc_law_pick, od_law_pick, .func (PySem.W.fnOf "_law_pick" "_law_pick" (defArgs s_law_pick) (defBody s_law_pick) (defScope s_law_pick) .none kV_law_pick doc_law_pick pm_law_pick an_law_pick cd_law_pick ct_law_pick), osl_law_pick⟩)
    (q_law_pick : PySem.W.codeIn K cd_law_pick "_law_pick" = true)
    (k_law_pick : PySem.W.keepIn K (.ref f_law_pick) = true)
    (c_law_any : PySem.W.nsIn K mainGlobals "_law_any" = some (some (.ref f_law_any)))
    (l_law_any : K.lookup f_law_any = some ⟨oc_law_any, od_law_any, .func (PySem.W.fnOf "_law_any" "_law_any" (defArgs s_law_any) (defBody s_law_any) (defScope s_law_any) .none kV_law_any doc_law_any pm_law_any an_law_any cd_law_any ct_law_any), osl_law_any⟩)
    (q_law_any : PySem.W.codeIn K cd_law_any "_law_any" = true)
    (k_law_any : PySem.W.keepIn K (.ref f_law_any) = true)
    (c_law_rules : PySem.W.nsIn K mainGlobals "_law_rules" = some (some (.ref f_law_rules)))
    (l_law_rules : K.lookup f_law_rules = some ⟨oc_law_rules, od_law_rules, .func (PySem.W.fnOf "_law_rules" "_law_rules" (defArgs s_law_rules) (defBody s_law_rules) (defScope s_law_rules) .none kV_law_rules doc_law_rules pm_law_rules an_law_rules cd_law_rules ct_law_rules), osl_law_rules⟩)
    (q_law_rules : PySem.W.codeIn K cd_law_rules "_law_rules" = true)
    (k_law_rules : PySem.W.keepIn K (.ref f_law_rules) = true)
    (c_law_value : PySem.W.nsIn K mainGlobals "_law_value" = some (some (.ref f_law_value)))
    (l_law_value : K.lookup f_law_value = some ⟨oc_law_value, od_law_value, .func (PySem.W.fnOf "_law_value" "_law_value" (defArgs s_law_value) (defBody s_law_value) (defScope s_law_value) .none kV_law_value doc_law_value pm_law_value an_law_value cd_law_value ct_law_value), osl_law_value⟩)
    (q_law_value : PySem.W.codeIn K cd_law_value "_law_value" = true)
    (k_law_value : PySem.W.keepIn K (.ref f_law_value) = true)
    (c_law_deed : PySem.W.nsIn K mainGlobals "_law_deed" = some (some (.ref f_law_deed)))
    (l_law_deed : K.lookup f_law_deed = some ⟨oc_law_deed, od_law_deed, .func (PySem.W.fnOf "_law_deed" "_law_deed" (defArgs s_law_deed) (defBody s_law_deed) (defScope s_law_deed) .none kV_law_deed doc_law_deed pm_law_deed an_law_deed cd_law_deed ct_law_deed), osl_law_deed⟩)
    (q_law_deed : PySem.W.codeIn K cd_law_deed "_law_deed" = true)
    (k_law_deed : PySem.W.keepIn K (.ref f_law_deed) = true)
    (c_law_is_stray : PySem.W.nsIn K mainGlobals "_law_is_stray" = some (some (.ref f_law_is_stray)))
    (l_law_is_stray : K.lookup f_law_is_stray = some ⟨oc_law_is_stray, od_law_is_stray, .func (PySem.W.fnOf "_law_is_stray" "_law_is_stray" (defArgs s_law_is_stray) (defBody s_law_is_stray) (defScope s_law_is_stray) .none kV_law_is_stray doc_law_is_stray pm_law_is_stray an_law_is_stray cd_law_is_stray ct_law_is_stray), osl_law_is_stray⟩)
    (q_law_is_stray : PySem.W.codeIn K cd_law_is_stray "_law_is_stray" = true)
    (k_law_is_stray : PySem.W.keepIn K (.ref f_law_is_stray) = true)
    (c_law_breaks : PySem.W.nsIn K mainGlobals "_law_breaks" = some (some (.ref f_law_breaks)))
    (l_law_breaks : K.lookup f_law_breaks = some ⟨oc_law_breaks, od_law_breaks, .func (PySem.W.fnOf "_law_breaks" "_law_breaks" (defArgs s_law_breaks) (defBody s_law_breaks) (defScope s_law_breaks) .none kV_law_breaks doc_law_breaks pm_law_breaks an_law_breaks cd_law_breaks ct_law_breaks), osl_law_breaks⟩)
    (q_law_breaks : PySem.W.codeIn K cd_law_breaks "_law_breaks" = true)
    (k_law_breaks : PySem.W.keepIn K (.ref f_law_breaks) = true)
    (c_law_is_done : PySem.W.nsIn K mainGlobals "_law_is_done" = some (some (.ref f_law_is_done)))
    (l_law_is_done : K.lookup f_law_is_done = some ⟨oc_law_is_done, od_law_is_done, .func (PySem.W.fnOf "_law_is_done" "_law_is_done" (defArgs s_law_is_done) (defBody s_law_is_done) (defScope s_law_is_done) .none kV_law_is_done doc_law_is_done pm_law_is_done an_law_is_done cd_law_is_done ct_law_is_done), osl_law_is_done⟩)
    (q_law_is_done : PySem.W.codeIn K cd_law_is_done "_law_is_done" = true)
    (k_law_is_done : PySem.W.keepIn K (.ref f_law_is_done) = true)
    (c_law : PySem.W.nsIn K mainGlobals "law" = some (some (.ref f_law)))
    (l_law : K.lookup f_law = some ⟨oc_law, od_law, .func (PySem.W.fnOf "law" "law" (defArgs s_law) (defBody s_law) (defScope s_law) .none kV_law doc_law pm_law an_law cd_law ct_law), osl_law⟩)
    (q_law : PySem.W.codeIn K cd_law "law" = true)
    (k_law : PySem.W.keepIn K (.ref f_law) = true)
    (c_CHECKS : PySem.W.nsIn K mainGlobals "CHECKS" = some (some (.ref d_CHECKS)))
    (l_CHECKS : K.lookup d_CHECKS = some ⟨.type "dict", none, .dict es_CHECKS n_CHECKS, #[]⟩)
    (e_CHECKS : es_CHECKS.toList = [⟨h_CHECKS_0, .str "table" t_CHECKS_0, .ref f_is_word⟩, ⟨h_CHECKS_1, .str "land" t_CHECKS_1, .ref f_is_word⟩, ⟨h_CHECKS_2, .str "id" t_CHECKS_2, .ref f_is_number⟩, ⟨h_CHECKS_3, .str "k" t_CHECKS_3, .ref f_is_number⟩, ⟨h_CHECKS_4, .str "most" t_CHECKS_4, .ref f_is_number⟩, ⟨h_CHECKS_5, .str "more" t_CHECKS_5, .ref f_is_whole⟩, ⟨h_CHECKS_6, .str "ticks" t_CHECKS_6, .ref f_is_from_one⟩, ⟨h_CHECKS_7, .str "value" t_CHECKS_7, .ref f_is_value⟩, ⟨h_CHECKS_8, .str "worths" t_CHECKS_8, .ref f_are_worths⟩, ⟨h_CHECKS_9, .str "conds" t_CHECKS_9, .ref f_are_conds⟩])
    (s_CHECKS : (d_CHECKS == sysModules) = false)
    (hh_CHECKS_0 : h_CHECKS_0 = PyData.keyHash w.params "table")
    (hh_CHECKS_1 : h_CHECKS_1 = PyData.keyHash w.params "land")
    (hh_CHECKS_2 : h_CHECKS_2 = PyData.keyHash w.params "id")
    (hh_CHECKS_3 : h_CHECKS_3 = PyData.keyHash w.params "k")
    (hh_CHECKS_4 : h_CHECKS_4 = PyData.keyHash w.params "most")
    (hh_CHECKS_5 : h_CHECKS_5 = PyData.keyHash w.params "more")
    (hh_CHECKS_6 : h_CHECKS_6 = PyData.keyHash w.params "ticks")
    (hh_CHECKS_7 : h_CHECKS_7 = PyData.keyHash w.params "value")
    (hh_CHECKS_8 : h_CHECKS_8 = PyData.keyHash w.params "worths")
    (hh_CHECKS_9 : h_CHECKS_9 = PyData.keyHash w.params "conds") : Txt K mg w where
  g_SMALL_LETTERS := ⟨_, PySem.W.mg_of X G c_SMALL_LETTERS⟩
  g_MOST_LETTERS := ⟨_, PySem.W.mg_of X G c_MOST_LETTERS⟩
  g_MOST_SIGNS := ⟨_, PySem.W.mg_of X G c_MOST_SIGNS⟩
  g_FIRST_SIGN := ⟨_, PySem.W.mg_of X G c_FIRST_SIGN⟩
  g_LAST_SIGN := ⟨_, PySem.W.mg_of X G c_LAST_SIGN⟩
  g_BARRED_SIGN := ⟨_, PySem.W.mg_of X G c_BARRED_SIGN⟩
  a_SIGNS := a_SIGNS
  g_SIGNS := PySem.W.mg_of X G c_SIGNS
  r_SIGNS := fun F H => kt_tup (us := [.str "=", .str "<", .str ">"]) l_SIGNS k_SIGNS nd_SIGNS d_SIGNS (by show 3 ≤ 1000; decide) (.cons ⟨_, rfl⟩ (.cons ⟨_, rfl⟩ (.cons ⟨_, rfl⟩ (.nil)))) (.cons (.str _) (.cons (.str _) (.cons (.str _) (.nil))))
  a_dv_broken_by_rules := a_dv_broken_by_rules
  r_dv_broken_by_rules := fun F H => kt_tup (us := []) l_dv_broken_by_rules k_dv_broken_by_rules nd_dv_broken_by_rules d_dv_broken_by_rules (by show 0 ≤ 1000; decide) (.nil) (.nil)
  a_dv_done_job_rules := a_dv_done_job_rules
  r_dv_done_job_rules := fun F H => kt_tup (us := []) l_dv_done_job_rules k_dv_done_job_rules nd_dv_done_job_rules d_dv_done_job_rules (by show 0 ≤ 1000; decide) (.nil) (.nil)
  a_ASKS_0 := a_ASKS_0
  r_ASKS_0 := fun F H => kt_tup (us := [.str "table", .str "id"]) l_ASKS_0 k_ASKS_0 nd_ASKS_0 dd_ASKS_0 (by show 2 ≤ 1000; decide) (.cons ⟨_, rfl⟩ (.cons ⟨_, rfl⟩ (.nil))) (.cons (.str _) (.cons (.str _) (.nil)))
  a_ASKS_1 := a_ASKS_1
  r_ASKS_1 := fun F H => kt_tup (us := [.str "table", .str "conds", .str "most"]) l_ASKS_1 k_ASKS_1 nd_ASKS_1 dd_ASKS_1 (by show 3 ≤ 1000; decide) (.cons ⟨_, rfl⟩ (.cons ⟨_, rfl⟩ (.cons ⟨_, rfl⟩ (.nil)))) (.cons (.str _) (.cons (.str _) (.cons (.str _) (.nil))))
  a_ASKS_2 := a_ASKS_2
  r_ASKS_2 := fun F H => kt_tup (us := [.str "table", .str "conds"]) l_ASKS_2 k_ASKS_2 nd_ASKS_2 dd_ASKS_2 (by show 2 ≤ 1000; decide) (.cons ⟨_, rfl⟩ (.cons ⟨_, rfl⟩ (.nil))) (.cons (.str _) (.cons (.str _) (.nil)))
  a_ASKS_3 := a_ASKS_3
  r_ASKS_3 := fun F H => kt_tup (us := [.str "table", .str "k", .str "conds"]) l_ASKS_3 k_ASKS_3 nd_ASKS_3 dd_ASKS_3 (by show 3 ≤ 1000; decide) (.cons ⟨_, rfl⟩ (.cons ⟨_, rfl⟩ (.cons ⟨_, rfl⟩ (.nil)))) (.cons (.str _) (.cons (.str _) (.cons (.str _) (.nil))))
  a_ASKS_4 := a_ASKS_4
  r_ASKS_4 := fun F H => kt_tup (us := [.str "table", .str "id", .str "k"]) l_ASKS_4 k_ASKS_4 nd_ASKS_4 dd_ASKS_4 (by show 3 ≤ 1000; decide) (.cons ⟨_, rfl⟩ (.cons ⟨_, rfl⟩ (.cons ⟨_, rfl⟩ (.nil)))) (.cons (.str _) (.cons (.str _) (.cons (.str _) (.nil))))
  d_ASKS := d_ASKS
  g_ASKS := PySem.W.mg_of X G c_ASKS
  kd_ASKS := ⟨es_ASKS, n_ASKS, ⟨l_ASKS, by rw [e_ASKS]; exact ⟨⟨_, _, rfl, hh_ASKS_0⟩, ⟨⟨_, _, rfl, hh_ASKS_1⟩, ⟨⟨_, _, rfl, hh_ASKS_2⟩, ⟨⟨_, _, rfl, hh_ASKS_3⟩, ⟨⟨_, _, rfl, hh_ASKS_4⟩, trivial⟩⟩⟩⟩⟩, s_ASKS⟩, by rw [e_ASKS]; exact .cons ⟨⟨_, rfl⟩, rfl⟩ (.cons ⟨⟨_, rfl⟩, rfl⟩ (.cons ⟨⟨_, rfl⟩, rfl⟩ (.cons ⟨⟨_, rfl⟩, rfl⟩ (.cons ⟨⟨_, rfl⟩, rfl⟩ (.nil)))))⟩
  b_all := PySem.W.mg_none_of X G b_all
  b_bool := PySem.W.mg_none_of X G b_bool
  b_int := PySem.W.mg_none_of X G b_int
  b_isinstance := PySem.W.mg_none_of X G b_isinstance
  b_len := PySem.W.mg_none_of X G b_len
  b_list := PySem.W.mg_none_of X G b_list
  b_max := PySem.W.mg_none_of X G b_max
  b_ord := PySem.W.mg_none_of X G b_ord
  b_range := PySem.W.mg_none_of X G b_range
  b_repr := PySem.W.mg_none_of X G b_repr
  b_set := PySem.W.mg_none_of X G b_set
  b_sorted := PySem.W.mg_none_of X G b_sorted
  b_str := PySem.W.mg_none_of X G b_str
  b_sum := PySem.W.mg_none_of X G b_sum
  b_tuple := PySem.W.mg_none_of X G b_tuple
  b_zip := PySem.W.mg_none_of X G b_zip
  a_is_whole := f_is_whole
  fd_is_whole := _
  g_is_whole := PySem.W.mg_of X G c_is_whole
  F_is_whole := fund_mk (st := s_is_whole) l_is_whole q_is_whole k_is_whole (.inl rfl)
  a_is_number := f_is_number
  fd_is_number := _
  g_is_number := PySem.W.mg_of X G c_is_number
  F_is_number := fund_mk (st := s_is_number) l_is_number q_is_number k_is_number (.inl rfl)
  a_is_from_one := f_is_from_one
  fd_is_from_one := _
  g_is_from_one := PySem.W.mg_of X G c_is_from_one
  F_is_from_one := fund_mk (st := s_is_from_one) l_is_from_one q_is_from_one k_is_from_one (.inl rfl)
  a_is_word := f_is_word
  fd_is_word := _
  g_is_word := PySem.W.mg_of X G c_is_word
  F_is_word := fund_mk (st := s_is_word) l_is_word q_is_word k_is_word (.inl rfl)
  a_is_said_text := f_is_said_text
  fd_is_said_text := _
  g_is_said_text := PySem.W.mg_of X G c_is_said_text
  F_is_said_text := fund_mk (st := s_is_said_text) l_is_said_text q_is_said_text k_is_said_text (.inl rfl)
  a_is_tuple_of := f_is_tuple_of
  fd_is_tuple_of := _
  g_is_tuple_of := PySem.W.mg_of X G c_is_tuple_of
  F_is_tuple_of := fund_mk (st := s_is_tuple_of) l_is_tuple_of q_is_tuple_of k_is_tuple_of (.inl rfl)
  a_is_said := f_is_said
  fd_is_said := _
  g_is_said := PySem.W.mg_of X G c_is_said
  F_is_said := fund_mk (st := s_is_said) l_is_said q_is_said k_is_said (.inl rfl)
  a_is_link := f_is_link
  fd_is_link := _
  g_is_link := PySem.W.mg_of X G c_is_link
  F_is_link := fund_mk (st := s_is_link) l_is_link q_is_link k_is_link (.inl rfl)
  a_is_value := f_is_value
  fd_is_value := _
  g_is_value := PySem.W.mg_of X G c_is_value
  F_is_value := fund_mk (st := s_is_value) l_is_value q_is_value k_is_value (.inl rfl)
  a_are_worths := f_are_worths
  fd_are_worths := _
  g_are_worths := PySem.W.mg_of X G c_are_worths
  F_are_worths := fund_mk (st := s_are_worths) l_are_worths q_are_worths k_are_worths (.inl rfl)
  a_is_cond := f_is_cond
  fd_is_cond := _
  g_is_cond := PySem.W.mg_of X G c_is_cond
  F_is_cond := fund_mk (st := s_is_cond) l_is_cond q_is_cond k_is_cond (.inl rfl)
  a_are_conds := f_are_conds
  fd_are_conds := _
  g_are_conds := PySem.W.mg_of X G c_are_conds
  F_are_conds := fund_mk (st := s_are_conds) l_are_conds q_are_conds k_are_conds (.inl rfl)
  a_fits := f_fits
  fd_fits := _
  g_fits := PySem.W.mg_of X G c_fits
  F_fits := fund_mk (st := s_fits) l_fits q_fits k_fits (.inl rfl)
  a_are_parts := f_are_parts
  fd_are_parts := _
  g_are_parts := PySem.W.mg_of X G c_are_parts
  F_are_parts := fund_mk (st := s_are_parts) l_are_parts q_are_parts k_are_parts (.inl rfl)
  a_begins_with_text := f_begins_with_text
  fd_begins_with_text := _
  g_begins_with_text := PySem.W.mg_of X G c_begins_with_text
  F_begins_with_text := fund_mk (st := s_begins_with_text) l_begins_with_text q_begins_with_text k_begins_with_text (.inl rfl)
  a_is_ask := f_is_ask
  fd_is_ask := _
  g_is_ask := PySem.W.mg_of X G c_is_ask
  F_is_ask := fund_mk (st := s_is_ask) l_is_ask q_is_ask k_is_ask (.inl rfl)
  a_is_refusal := f_is_refusal
  fd_is_refusal := _
  g_is_refusal := PySem.W.mg_of X G c_is_refusal
  F_is_refusal := fund_mk (st := s_is_refusal) l_is_refusal q_is_refusal k_is_refusal (.inl rfl)
  a_tables_of := f_tables_of
  fd_tables_of := _
  g_tables_of := PySem.W.mg_of X G c_tables_of
  F_tables_of := fund_mk (st := s_tables_of) l_tables_of q_tables_of k_tables_of (.inl rfl)
  a_has_table := f_has_table
  fd_has_table := _
  g_has_table := PySem.W.mg_of X G c_has_table
  F_has_table := fund_mk (st := s_has_table) l_has_table q_has_table k_has_table (.inl rfl)
  a_table_in := f_table_in
  fd_table_in := _
  g_table_in := PySem.W.mg_of X G c_table_in
  F_table_in := fund_mk (st := s_table_in) l_table_in q_table_in k_table_in (.inl rfl)
  a_rows_of := f_rows_of
  fd_rows_of := _
  g_rows_of := PySem.W.mg_of X G c_rows_of
  F_rows_of := fund_mk (st := s_rows_of) l_rows_of q_rows_of k_rows_of (.inl rfl)
  a_row_of := f_row_of
  fd_row_of := _
  g_row_of := PySem.W.mg_of X G c_row_of
  F_row_of := fund_mk (st := s_row_of) l_row_of q_row_of k_row_of (.inl rfl)
  a_with_table := f_with_table
  fd_with_table := _
  g_with_table := PySem.W.mg_of X G c_with_table
  F_with_table := fund_mk (st := s_with_table) l_with_table q_with_table k_with_table (.inl rfl)
  a_row_turned := f_row_turned
  fd_row_turned := _
  g_row_turned := PySem.W.mg_of X G c_row_turned
  F_row_turned := fund_mk (st := s_row_turned) l_row_turned q_row_turned k_row_turned (.inl rfl)
  a_link_at := f_link_at
  fd_link_at := _
  g_link_at := PySem.W.mg_of X G c_link_at
  F_link_at := fund_mk (st := s_link_at) l_link_at q_link_at k_link_at (.inl rfl)
  a_rule_of := f_rule_of
  fd_rule_of := _
  g_rule_of := PySem.W.mg_of X G c_rule_of
  F_rule_of := fund_mk (st := s_rule_of) l_rule_of q_rule_of k_rule_of (.inl rfl)
  a_is_kept := f_is_kept
  fd_is_kept := _
  g_is_kept := PySem.W.mg_of X G c_is_kept
  F_is_kept := fund_mk (st := s_is_kept) l_is_kept q_is_kept k_is_kept (.inl rfl)
  a_is_stray := f_is_stray
  fd_is_stray := _
  g_is_stray := PySem.W.mg_of X G c_is_stray
  F_is_stray := fund_mk (st := s_is_stray) l_is_stray q_is_stray k_is_stray (.inl rfl)
  a_broken_by := f_broken_by
  fd_broken_by := _
  g_broken_by := PySem.W.mg_of X G c_broken_by
  F_broken_by := fund_mk (st := s_broken_by) l_broken_by q_broken_by k_broken_by (.inr ⟨D_broken_by, D1_broken_by, fun q hq => by
    simp only [List.mem_cons, List.not_mem_nil, or_false] at hq
    rcases hq with rfl
    · exact ⟨_, D2_broken_by_rules, rfl⟩⟩)
  a_same := f_same
  fd_same := _
  g_same := PySem.W.mg_of X G c_same
  F_same := fund_mk (st := s_same) l_same q_same k_same (.inl rfl)
  a_are_same := f_are_same
  fd_are_same := _
  g_are_same := PySem.W.mg_of X G c_are_same
  F_are_same := fund_mk (st := s_are_same) l_are_same q_are_same k_are_same (.inl rfl)
  a_meets_cond := f_meets_cond
  fd_meets_cond := _
  g_meets_cond := PySem.W.mg_of X G c_meets_cond
  F_meets_cond := fund_mk (st := s_meets_cond) l_meets_cond q_meets_cond k_meets_cond (.inl rfl)
  a_meets := f_meets
  fd_meets := _
  g_meets := PySem.W.mg_of X G c_meets
  F_meets := fund_mk (st := s_meets) l_meets q_meets k_meets (.inl rfl)
  a_looks := f_looks
  fd_looks := _
  g_looks := PySem.W.mg_of X G c_looks
  F_looks := fund_mk (st := s_looks) l_looks q_looks k_looks (.inl rfl)
  a_conds_of := f_conds_of
  fd_conds_of := _
  g_conds_of := PySem.W.mg_of X G c_conds_of
  F_conds_of := fund_mk (st := s_conds_of) l_conds_of q_conds_of k_conds_of (.inl rfl)
  a_done_job := f_done_job
  fd_done_job := _
  g_done_job := PySem.W.mg_of X G c_done_job
  F_done_job := fund_mk (st := s_done_job) l_done_job q_done_job k_done_job (.inr ⟨D_done_job, D1_done_job, fun q hq => by
    simp only [List.mem_cons, List.not_mem_nil, or_false] at hq
    rcases hq with rfl
    · exact ⟨_, D2_done_job_rules, rfl⟩⟩)
  a_refusal_of := f_refusal_of
  fd_refusal_of := _
  g_refusal_of := PySem.W.mg_of X G c_refusal_of
  F_refusal_of := fund_mk (st := s_refusal_of) l_refusal_of q_refusal_of k_refusal_of (.inl rfl)
  a_has_worth := f_has_worth
  fd_has_worth := _
  g_has_worth := PySem.W.mg_of X G c_has_worth
  F_has_worth := fund_mk (st := s_has_worth) l_has_worth q_has_worth k_has_worth (.inl rfl)
  a_row_linked := f_row_linked
  fd_row_linked := _
  g_row_linked := PySem.W.mg_of X G c_row_linked
  F_row_linked := fund_mk (st := s_row_linked) l_row_linked q_row_linked k_row_linked (.inl rfl)
  a_row_put := f_row_put
  fd_row_put := _
  g_row_put := PySem.W.mg_of X G c_row_put
  F_row_put := fund_mk (st := s_row_put) l_row_put q_row_put k_row_put (.inl rfl)
  a_put_done := f_put_done
  fd_put_done := _
  g_put_done := PySem.W.mg_of X G c_put_done
  F_put_done := fund_mk (st := s_put_done) l_put_done q_put_done k_put_done (.inl rfl)
  a_index_done := f_index_done
  fd_index_done := _
  g_index_done := PySem.W.mg_of X G c_index_done
  F_index_done := fund_mk (st := s_index_done) l_index_done q_index_done k_index_done (.inl rfl)
  a_row_done := f_row_done
  fd_row_done := _
  g_row_done := PySem.W.mg_of X G c_row_done
  F_row_done := fund_mk (st := s_row_done) l_row_done q_row_done k_row_done (.inl rfl)
  a_answer_of := f_answer_of
  fd_answer_of := _
  g_answer_of := PySem.W.mg_of X G c_answer_of
  F_answer_of := fund_mk (st := s_answer_of) l_answer_of q_answer_of k_answer_of (.inl rfl)
  a_answer_by := f_answer_by
  fd_answer_by := _
  g_answer_by := PySem.W.mg_of X G c_answer_by
  F_answer_by := fund_mk (st := s_answer_by) l_answer_by q_answer_by k_answer_by (.inl rfl)
  a_law_tape := f_law_tape
  fd_law_tape := _
  g_law_tape := PySem.W.mg_of X G c_law_tape
  F_law_tape := fund_mk (st := s_law_tape) l_law_tape q_law_tape k_law_tape (.inl rfl)
  a_law_pick := f_law_pick
  fd_law_pick := _
  g_law_pick := PySem.W.mg_of X G c_law_pick
  F_law_pick := fund_mk (st := s_law_pick) l_law_pick q_law_pick k_law_pick (.inl rfl)
  a_law_any := f_law_any
  fd_law_any := _
  g_law_any := PySem.W.mg_of X G c_law_any
  F_law_any := fund_mk (st := s_law_any) l_law_any q_law_any k_law_any (.inl rfl)
  a_law_rules := f_law_rules
  fd_law_rules := _
  g_law_rules := PySem.W.mg_of X G c_law_rules
  F_law_rules := fund_mk (st := s_law_rules) l_law_rules q_law_rules k_law_rules (.inl rfl)
  a_law_value := f_law_value
  fd_law_value := _
  g_law_value := PySem.W.mg_of X G c_law_value
  F_law_value := fund_mk (st := s_law_value) l_law_value q_law_value k_law_value (.inl rfl)
  a_law_deed := f_law_deed
  fd_law_deed := _
  g_law_deed := PySem.W.mg_of X G c_law_deed
  F_law_deed := fund_mk (st := s_law_deed) l_law_deed q_law_deed k_law_deed (.inl rfl)
  a_law_is_stray := f_law_is_stray
  fd_law_is_stray := _
  g_law_is_stray := PySem.W.mg_of X G c_law_is_stray
  F_law_is_stray := fund_mk (st := s_law_is_stray) l_law_is_stray q_law_is_stray k_law_is_stray (.inl rfl)
  a_law_breaks := f_law_breaks
  fd_law_breaks := _
  g_law_breaks := PySem.W.mg_of X G c_law_breaks
  F_law_breaks := fund_mk (st := s_law_breaks) l_law_breaks q_law_breaks k_law_breaks (.inl rfl)
  a_law_is_done := f_law_is_done
  fd_law_is_done := _
  g_law_is_done := PySem.W.mg_of X G c_law_is_done
  F_law_is_done := fund_mk (st := s_law_is_done) l_law_is_done q_law_is_done k_law_is_done (.inl rfl)
  a_law := f_law
  fd_law := _
  g_law := PySem.W.mg_of X G c_law
  F_law := fund_mk (st := s_law) l_law q_law k_law (.inl rfl)
  d_CHECKS := d_CHECKS
  g_CHECKS := PySem.W.mg_of X G c_CHECKS
  kd_CHECKS := ⟨es_CHECKS, n_CHECKS, ⟨l_CHECKS, by rw [e_CHECKS]; exact ⟨⟨_, _, rfl, hh_CHECKS_0⟩, ⟨⟨_, _, rfl, hh_CHECKS_1⟩, ⟨⟨_, _, rfl, hh_CHECKS_2⟩, ⟨⟨_, _, rfl, hh_CHECKS_3⟩, ⟨⟨_, _, rfl, hh_CHECKS_4⟩, ⟨⟨_, _, rfl, hh_CHECKS_5⟩, ⟨⟨_, _, rfl, hh_CHECKS_6⟩, ⟨⟨_, _, rfl, hh_CHECKS_7⟩, ⟨⟨_, _, rfl, hh_CHECKS_8⟩, ⟨⟨_, _, rfl, hh_CHECKS_9⟩, trivial⟩⟩⟩⟩⟩⟩⟩⟩⟩⟩, s_CHECKS⟩, by rw [e_CHECKS]; exact .cons ⟨⟨_, rfl⟩, rfl⟩ (.cons ⟨⟨_, rfl⟩, rfl⟩ (.cons ⟨⟨_, rfl⟩, rfl⟩ (.cons ⟨⟨_, rfl⟩, rfl⟩ (.cons ⟨⟨_, rfl⟩, rfl⟩ (.cons ⟨⟨_, rfl⟩, rfl⟩ (.cons ⟨⟨_, rfl⟩, rfl⟩ (.cons ⟨⟨_, rfl⟩, rfl⟩ (.cons ⟨⟨_, rfl⟩, rfl⟩ (.cons ⟨⟨_, rfl⟩, rfl⟩ (.nil))))))))))⟩
theorem bt_law {K : PySem.W.Frag} {mg : Str → Option Value} {w : World} (T : Txt K mg w) (s : Shared) (u : Value) : BindsTo s T.fd_law ⟨[u], []⟩ [("_law_script", u)] :=
  T.F_law.bindsA (ps := ["_law_script"]) (fun _ _ _ _ _ _ us hl => match us, hl with | [_], _ => rfl) s [u] rfl
theorem row_end {l : PySem.W.OpenLaw} {q : Program} {loose : List Str} {XP : (Str → Option Value) → Heap → Prop} {YP : World → Heap → Prop} {d : DefRec} {K : Params → PySem.W.Frag} (hn : l.most = some 63) (hdf : d.params.defaults = [])
    (hy : ∀ (w : World) (h : Heap), YP w h → (K w.params).In h) (hd : d.name = "law")
    (T : ∀ (w : World) (mg : Str → Option Value) (h : Heap), (K w.params).In h → h.Ns mainGlobals mg → Nonempty (Txt (K w.params) mg w)) :
    PySem.W.WalkO q loose XP YP l.row.toRowW d [] (fun f vs => PySem.call f vs) := by
  refine g_walk (n := 63) (k := 32) (x := "_law_script") (CX := fun _ => CX0) (sp := fun w => spOf (K w.params) 1 6130000 m_law) hn (by decide) hdf ⟨rfl, by decide, by decide⟩ hy ?_ (fun w H a ns hl hO hS => law_want (by decide) law_true H a ns hl hO hS) fun _ _ _ _ _ z => z
  intro w mg fa h X G hmg
  obtain ⟨t⟩ := T w mg h X G
  rw [hd, t.g_law] at hmg
  cases hmg
  exact ⟨t.fd_law, bt_law t, fun base _ _ => ok_law t⟩
end Own
open PySem PySem.W PyProof.Rows
set_option maxRecDepth 100000 in
set_option maxHeartbeats 0 in
theorem PySem.Challenge.cw_tenanthall_k40_moves_broken_holds : PySem.Challenge.rw_tenanthall_k40_moves_broken.Holds := by
  w_on; o_law; k_head; (case hw => w_witness2)
  k_fill
  refine Own.row_end (l := PySem.Challenge.rw_tenanthall_k40_moves_broken) rfl rfl (fun w h Y => PySem.W.kIn_of Y) rfl ?T
  case T =>
    intro w mg h KX G
    refine' ⟨Own.txt_mk KX G ?c_SMALL_LETTERS ?c_MOST_LETTERS ?c_MOST_SIGNS ?c_FIRST_SIGN ?c_LAST_SIGN ?c_BARRED_SIGN ?c_SIGNS ?l_SIGNS ?k_SIGNS ?nd_SIGNS ?d_SIGNS ?c_ASKS ?l_ASKS ?e_ASKS ?s_ASKS ?hh_ASKS_0 ?hh_ASKS_1 ?hh_ASKS_2 ?hh_ASKS_3 ?hh_ASKS_4 ?l_ASKS_0 ?k_ASKS_0 ?nd_ASKS_0 ?dd_ASKS_0 ?l_ASKS_1 ?k_ASKS_1 ?nd_ASKS_1 ?dd_ASKS_1 ?l_ASKS_2 ?k_ASKS_2 ?nd_ASKS_2 ?dd_ASKS_2 ?l_ASKS_3 ?k_ASKS_3 ?nd_ASKS_3 ?dd_ASKS_3 ?l_ASKS_4 ?k_ASKS_4 ?nd_ASKS_4 ?dd_ASKS_4 ?b_all ?b_bool ?b_int ?b_isinstance ?b_len ?b_list ?b_max ?b_ord ?b_range ?b_repr ?b_set ?b_sorted ?b_str ?b_sum ?b_tuple ?b_zip ?c_is_whole ?l_is_whole ?q_is_whole ?k_is_whole ?c_is_number ?l_is_number ?q_is_number ?k_is_number ?c_is_from_one ?l_is_from_one ?q_is_from_one ?k_is_from_one ?c_is_word ?l_is_word ?q_is_word ?k_is_word ?c_is_said_text ?l_is_said_text ?q_is_said_text ?k_is_said_text ?c_is_tuple_of ?l_is_tuple_of ?q_is_tuple_of ?k_is_tuple_of ?c_is_said ?l_is_said ?q_is_said ?k_is_said ?c_is_link ?l_is_link ?q_is_link ?k_is_link ?c_is_value ?l_is_value ?q_is_value ?k_is_value ?c_are_worths ?l_are_worths ?q_are_worths ?k_are_worths ?c_is_cond ?l_is_cond ?q_is_cond ?k_is_cond ?c_are_conds ?l_are_conds ?q_are_conds ?k_are_conds ?c_fits ?l_fits ?q_fits ?k_fits ?c_are_parts ?l_are_parts ?q_are_parts ?k_are_parts ?c_begins_with_text ?l_begins_with_text ?q_begins_with_text ?k_begins_with_text ?c_is_ask ?l_is_ask ?q_is_ask ?k_is_ask ?c_is_refusal ?l_is_refusal ?q_is_refusal ?k_is_refusal ?c_tables_of ?l_tables_of ?q_tables_of ?k_tables_of ?c_has_table ?l_has_table ?q_has_table ?k_has_table ?c_table_in ?l_table_in ?q_table_in ?k_table_in ?c_rows_of ?l_rows_of ?q_rows_of ?k_rows_of ?c_row_of ?l_row_of ?q_row_of ?k_row_of ?c_with_table ?l_with_table ?q_with_table ?k_with_table ?c_row_turned ?l_row_turned ?q_row_turned ?k_row_turned ?c_link_at ?l_link_at ?q_link_at ?k_link_at ?c_rule_of ?l_rule_of ?q_rule_of ?k_rule_of ?c_is_kept ?l_is_kept ?q_is_kept ?k_is_kept ?c_is_stray ?l_is_stray ?q_is_stray ?k_is_stray ?c_broken_by ?l_broken_by ?q_broken_by ?k_broken_by ?D1_broken_by ?D2_broken_by_rules ?l_dv_broken_by_rules ?k_dv_broken_by_rules ?nd_dv_broken_by_rules ?d_dv_broken_by_rules ?c_same ?l_same ?q_same ?k_same ?c_are_same ?l_are_same ?q_are_same ?k_are_same ?c_meets_cond ?l_meets_cond ?q_meets_cond ?k_meets_cond ?c_meets ?l_meets ?q_meets ?k_meets ?c_looks ?l_looks ?q_looks ?k_looks ?c_conds_of ?l_conds_of ?q_conds_of ?k_conds_of ?c_done_job ?l_done_job ?q_done_job ?k_done_job ?D1_done_job ?D2_done_job_rules ?l_dv_done_job_rules ?k_dv_done_job_rules ?nd_dv_done_job_rules ?d_dv_done_job_rules ?c_refusal_of ?l_refusal_of ?q_refusal_of ?k_refusal_of ?c_has_worth ?l_has_worth ?q_has_worth ?k_has_worth ?c_row_linked ?l_row_linked ?q_row_linked ?k_row_linked ?c_row_put ?l_row_put ?q_row_put ?k_row_put ?c_put_done ?l_put_done ?q_put_done ?k_put_done ?c_index_done ?l_index_done ?q_index_done ?k_index_done ?c_row_done ?l_row_done ?q_row_done ?k_row_done ?c_answer_of ?l_answer_of ?q_answer_of ?k_answer_of ?c_answer_by ?l_answer_by ?q_answer_by ?k_answer_by ?c_law_tape ?l_law_tape ?q_law_tape ?k_law_tape ?c_law_pick ?l_law_pick ?q_law_pick ?k_law_pick ?c_law_any ?l_law_any ?q_law_any ?k_law_any ?c_law_rules ?l_law_rules ?q_law_rules ?k_law_rules ?c_law_value ?l_law_value ?q_law_value ?k_law_value ?c_law_deed ?l_law_deed ?q_law_deed ?k_law_deed ?c_law_is_stray ?l_law_is_stray ?q_law_is_stray ?k_law_is_stray ?c_law_breaks ?l_law_breaks ?q_law_breaks ?k_law_breaks ?c_law_is_done ?l_law_is_done ?q_law_is_done ?k_law_is_done ?c_law ?l_law ?q_law ?k_law ?c_CHECKS ?l_CHECKS ?e_CHECKS ?s_CHECKS ?hh_CHECKS_0 ?hh_CHECKS_1 ?hh_CHECKS_2 ?hh_CHECKS_3 ?hh_CHECKS_4 ?hh_CHECKS_5 ?hh_CHECKS_6 ?hh_CHECKS_7 ?hh_CHECKS_8 ?hh_CHECKS_9⟩
    (case c_SMALL_LETTERS => first | k_is | rfl)
    (case c_MOST_LETTERS => first | k_is | rfl)
    (case c_MOST_SIGNS => first | k_is | rfl)
    (case c_FIRST_SIGN => first | k_is | rfl)
    (case c_LAST_SIGN => first | k_is | rfl)
    (case c_BARRED_SIGN => first | k_is | rfl)
    (case c_SIGNS => first | k_is | rfl)
    (case l_SIGNS => first | k_is | rfl)
    (case k_SIGNS => first | k_is | rfl)
    (case nd_SIGNS => first | k_is | rfl)
    (case d_SIGNS => first | k_is | rfl)
    (case c_ASKS => first | k_is | rfl)
    (case l_ASKS => first | k_is | rfl)
    (case e_ASKS => first | k_is | rfl)
    (case s_ASKS => first | k_is | rfl)
    (case hh_ASKS_0 => first | k_is | rfl)
    (case hh_ASKS_1 => first | k_is | rfl)
    (case hh_ASKS_2 => first | k_is | rfl)
    (case hh_ASKS_3 => first | k_is | rfl)
    (case hh_ASKS_4 => first | k_is | rfl)
    (case l_ASKS_0 => first | k_is | rfl)
    (case k_ASKS_0 => first | k_is | rfl)
    (case nd_ASKS_0 => first | k_is | rfl)
    (case dd_ASKS_0 => first | k_is | rfl)
    (case l_ASKS_1 => first | k_is | rfl)
    (case k_ASKS_1 => first | k_is | rfl)
    (case nd_ASKS_1 => first | k_is | rfl)
    (case dd_ASKS_1 => first | k_is | rfl)
    (case l_ASKS_2 => first | k_is | rfl)
    (case k_ASKS_2 => first | k_is | rfl)
    (case nd_ASKS_2 => first | k_is | rfl)
    (case dd_ASKS_2 => first | k_is | rfl)
    (case l_ASKS_3 => first | k_is | rfl)
    (case k_ASKS_3 => first | k_is | rfl)
    (case nd_ASKS_3 => first | k_is | rfl)
    (case dd_ASKS_3 => first | k_is | rfl)
    (case l_ASKS_4 => first | k_is | rfl)
    (case k_ASKS_4 => first | k_is | rfl)
    (case nd_ASKS_4 => first | k_is | rfl)
    (case dd_ASKS_4 => first | k_is | rfl)
    (case b_all => first | k_is | rfl)
    (case b_bool => first | k_is | rfl)
    (case b_int => first | k_is | rfl)
    (case b_isinstance => first | k_is | rfl)
    (case b_len => first | k_is | rfl)
    (case b_list => first | k_is | rfl)
    (case b_max => first | k_is | rfl)
    (case b_ord => first | k_is | rfl)
    (case b_range => first | k_is | rfl)
    (case b_repr => first | k_is | rfl)
    (case b_set => first | k_is | rfl)
    (case b_sorted => first | k_is | rfl)
    (case b_str => first | k_is | rfl)
    (case b_sum => first | k_is | rfl)
    (case b_tuple => first | k_is | rfl)
    (case b_zip => first | k_is | rfl)
    (case c_is_whole => first | k_is | rfl)
    (case l_is_whole => first | k_is | rfl)
    (case q_is_whole => first | k_is | rfl)
    (case k_is_whole => first | k_is | rfl)
    (case c_is_number => first | k_is | rfl)
    (case l_is_number => first | k_is | rfl)
    (case q_is_number => first | k_is | rfl)
    (case k_is_number => first | k_is | rfl)
    (case c_is_from_one => first | k_is | rfl)
    (case l_is_from_one => first | k_is | rfl)
    (case q_is_from_one => first | k_is | rfl)
    (case k_is_from_one => first | k_is | rfl)
    (case c_is_word => first | k_is | rfl)
    (case l_is_word => first | k_is | rfl)
    (case q_is_word => first | k_is | rfl)
    (case k_is_word => first | k_is | rfl)
    (case c_is_said_text => first | k_is | rfl)
    (case l_is_said_text => first | k_is | rfl)
    (case q_is_said_text => first | k_is | rfl)
    (case k_is_said_text => first | k_is | rfl)
    (case c_is_tuple_of => first | k_is | rfl)
    (case l_is_tuple_of => first | k_is | rfl)
    (case q_is_tuple_of => first | k_is | rfl)
    (case k_is_tuple_of => first | k_is | rfl)
    (case c_is_said => first | k_is | rfl)
    (case l_is_said => first | k_is | rfl)
    (case q_is_said => first | k_is | rfl)
    (case k_is_said => first | k_is | rfl)
    (case c_is_link => first | k_is | rfl)
    (case l_is_link => first | k_is | rfl)
    (case q_is_link => first | k_is | rfl)
    (case k_is_link => first | k_is | rfl)
    (case c_is_value => first | k_is | rfl)
    (case l_is_value => first | k_is | rfl)
    (case q_is_value => first | k_is | rfl)
    (case k_is_value => first | k_is | rfl)
    (case c_are_worths => first | k_is | rfl)
    (case l_are_worths => first | k_is | rfl)
    (case q_are_worths => first | k_is | rfl)
    (case k_are_worths => first | k_is | rfl)
    (case c_is_cond => first | k_is | rfl)
    (case l_is_cond => first | k_is | rfl)
    (case q_is_cond => first | k_is | rfl)
    (case k_is_cond => first | k_is | rfl)
    (case c_are_conds => first | k_is | rfl)
    (case l_are_conds => first | k_is | rfl)
    (case q_are_conds => first | k_is | rfl)
    (case k_are_conds => first | k_is | rfl)
    (case c_fits => first | k_is | rfl)
    (case l_fits => first | k_is | rfl)
    (case q_fits => first | k_is | rfl)
    (case k_fits => first | k_is | rfl)
    (case c_are_parts => first | k_is | rfl)
    (case l_are_parts => first | k_is | rfl)
    (case q_are_parts => first | k_is | rfl)
    (case k_are_parts => first | k_is | rfl)
    (case c_begins_with_text => first | k_is | rfl)
    (case l_begins_with_text => first | k_is | rfl)
    (case q_begins_with_text => first | k_is | rfl)
    (case k_begins_with_text => first | k_is | rfl)
    (case c_is_ask => first | k_is | rfl)
    (case l_is_ask => first | k_is | rfl)
    (case q_is_ask => first | k_is | rfl)
    (case k_is_ask => first | k_is | rfl)
    (case c_is_refusal => first | k_is | rfl)
    (case l_is_refusal => first | k_is | rfl)
    (case q_is_refusal => first | k_is | rfl)
    (case k_is_refusal => first | k_is | rfl)
    (case c_tables_of => first | k_is | rfl)
    (case l_tables_of => first | k_is | rfl)
    (case q_tables_of => first | k_is | rfl)
    (case k_tables_of => first | k_is | rfl)
    (case c_has_table => first | k_is | rfl)
    (case l_has_table => first | k_is | rfl)
    (case q_has_table => first | k_is | rfl)
    (case k_has_table => first | k_is | rfl)
    (case c_table_in => first | k_is | rfl)
    (case l_table_in => first | k_is | rfl)
    (case q_table_in => first | k_is | rfl)
    (case k_table_in => first | k_is | rfl)
    (case c_rows_of => first | k_is | rfl)
    (case l_rows_of => first | k_is | rfl)
    (case q_rows_of => first | k_is | rfl)
    (case k_rows_of => first | k_is | rfl)
    (case c_row_of => first | k_is | rfl)
    (case l_row_of => first | k_is | rfl)
    (case q_row_of => first | k_is | rfl)
    (case k_row_of => first | k_is | rfl)
    (case c_with_table => first | k_is | rfl)
    (case l_with_table => first | k_is | rfl)
    (case q_with_table => first | k_is | rfl)
    (case k_with_table => first | k_is | rfl)
    (case c_row_turned => first | k_is | rfl)
    (case l_row_turned => first | k_is | rfl)
    (case q_row_turned => first | k_is | rfl)
    (case k_row_turned => first | k_is | rfl)
    (case c_link_at => first | k_is | rfl)
    (case l_link_at => first | k_is | rfl)
    (case q_link_at => first | k_is | rfl)
    (case k_link_at => first | k_is | rfl)
    (case c_rule_of => first | k_is | rfl)
    (case l_rule_of => first | k_is | rfl)
    (case q_rule_of => first | k_is | rfl)
    (case k_rule_of => first | k_is | rfl)
    (case c_is_kept => first | k_is | rfl)
    (case l_is_kept => first | k_is | rfl)
    (case q_is_kept => first | k_is | rfl)
    (case k_is_kept => first | k_is | rfl)
    (case c_is_stray => first | k_is | rfl)
    (case l_is_stray => first | k_is | rfl)
    (case q_is_stray => first | k_is | rfl)
    (case k_is_stray => first | k_is | rfl)
    (case c_broken_by => first | k_is | rfl)
    (case l_broken_by => first | k_is | rfl)
    (case q_broken_by => first | k_is | rfl)
    (case k_broken_by => first | k_is | rfl)
    (case D1_broken_by => first | k_is | rfl)
    (case D2_broken_by_rules => first | k_is | rfl)
    (case l_dv_broken_by_rules => first | k_is | rfl)
    (case k_dv_broken_by_rules => first | k_is | rfl)
    (case nd_dv_broken_by_rules => first | k_is | rfl)
    (case d_dv_broken_by_rules => first | k_is | rfl)
    (case c_same => first | k_is | rfl)
    (case l_same => first | k_is | rfl)
    (case q_same => first | k_is | rfl)
    (case k_same => first | k_is | rfl)
    (case c_are_same => first | k_is | rfl)
    (case l_are_same => first | k_is | rfl)
    (case q_are_same => first | k_is | rfl)
    (case k_are_same => first | k_is | rfl)
    (case c_meets_cond => first | k_is | rfl)
    (case l_meets_cond => first | k_is | rfl)
    (case q_meets_cond => first | k_is | rfl)
    (case k_meets_cond => first | k_is | rfl)
    (case c_meets => first | k_is | rfl)
    (case l_meets => first | k_is | rfl)
    (case q_meets => first | k_is | rfl)
    (case k_meets => first | k_is | rfl)
    (case c_looks => first | k_is | rfl)
    (case l_looks => first | k_is | rfl)
    (case q_looks => first | k_is | rfl)
    (case k_looks => first | k_is | rfl)
    (case c_conds_of => first | k_is | rfl)
    (case l_conds_of => first | k_is | rfl)
    (case q_conds_of => first | k_is | rfl)
    (case k_conds_of => first | k_is | rfl)
    (case c_done_job => first | k_is | rfl)
    (case l_done_job => first | k_is | rfl)
    (case q_done_job => first | k_is | rfl)
    (case k_done_job => first | k_is | rfl)
    (case D1_done_job => first | k_is | rfl)
    (case D2_done_job_rules => first | k_is | rfl)
    (case l_dv_done_job_rules => first | k_is | rfl)
    (case k_dv_done_job_rules => first | k_is | rfl)
    (case nd_dv_done_job_rules => first | k_is | rfl)
    (case d_dv_done_job_rules => first | k_is | rfl)
    (case c_refusal_of => first | k_is | rfl)
    (case l_refusal_of => first | k_is | rfl)
    (case q_refusal_of => first | k_is | rfl)
    (case k_refusal_of => first | k_is | rfl)
    (case c_has_worth => first | k_is | rfl)
    (case l_has_worth => first | k_is | rfl)
    (case q_has_worth => first | k_is | rfl)
    (case k_has_worth => first | k_is | rfl)
    (case c_row_linked => first | k_is | rfl)
    (case l_row_linked => first | k_is | rfl)
    (case q_row_linked => first | k_is | rfl)
    (case k_row_linked => first | k_is | rfl)
    (case c_row_put => first | k_is | rfl)
    (case l_row_put => first | k_is | rfl)
    (case q_row_put => first | k_is | rfl)
    (case k_row_put => first | k_is | rfl)
    (case c_put_done => first | k_is | rfl)
    (case l_put_done => first | k_is | rfl)
    (case q_put_done => first | k_is | rfl)
    (case k_put_done => first | k_is | rfl)
    (case c_index_done => first | k_is | rfl)
    (case l_index_done => first | k_is | rfl)
    (case q_index_done => first | k_is | rfl)
    (case k_index_done => first | k_is | rfl)
    (case c_row_done => first | k_is | rfl)
    (case l_row_done => first | k_is | rfl)
    (case q_row_done => first | k_is | rfl)
    (case k_row_done => first | k_is | rfl)
    (case c_answer_of => first | k_is | rfl)
    (case l_answer_of => first | k_is | rfl)
    (case q_answer_of => first | k_is | rfl)
    (case k_answer_of => first | k_is | rfl)
    (case c_answer_by => first | k_is | rfl)
    (case l_answer_by => first | k_is | rfl)
    (case q_answer_by => first | k_is | rfl)
    (case k_answer_by => first | k_is | rfl)
    (case c_law_tape => first | k_is | rfl)
    (case l_law_tape => first | k_is | rfl)
    (case q_law_tape => first | k_is | rfl)
    (case k_law_tape => first | k_is | rfl)
    (case c_law_pick => first | k_is | rfl)
    (case l_law_pick => first | k_is | rfl)
    (case q_law_pick => first | k_is | rfl)
    (case k_law_pick => first | k_is | rfl)
    (case c_law_any => first | k_is | rfl)
    (case l_law_any => first | k_is | rfl)
    (case q_law_any => first | k_is | rfl)
    (case k_law_any => first | k_is | rfl)
    (case c_law_rules => first | k_is | rfl)
    (case l_law_rules => first | k_is | rfl)
    (case q_law_rules => first | k_is | rfl)
    (case k_law_rules => first | k_is | rfl)
    (case c_law_value => first | k_is | rfl)
    (case l_law_value => first | k_is | rfl)
    (case q_law_value => first | k_is | rfl)
    (case k_law_value => first | k_is | rfl)
    (case c_law_deed => first | k_is | rfl)
    (case l_law_deed => first | k_is | rfl)
    (case q_law_deed => first | k_is | rfl)
    (case k_law_deed => first | k_is | rfl)
    (case c_law_is_stray => first | k_is | rfl)
    (case l_law_is_stray => first | k_is | rfl)
    (case q_law_is_stray => first | k_is | rfl)
    (case k_law_is_stray => first | k_is | rfl)
    (case c_law_breaks => first | k_is | rfl)
    (case l_law_breaks => first | k_is | rfl)
    (case q_law_breaks => first | k_is | rfl)
    (case k_law_breaks => first | k_is | rfl)
    (case c_law_is_done => first | k_is | rfl)
    (case l_law_is_done => first | k_is | rfl)
    (case q_law_is_done => first | k_is | rfl)
    (case k_law_is_done => first | k_is | rfl)
    (case c_law => first | k_is | rfl)
    (case l_law => first | k_is | rfl)
    (case q_law => first | k_is | rfl)
    (case k_law => first | k_is | rfl)
    (case c_CHECKS => first | k_is | rfl)
    (case l_CHECKS => first | k_is | rfl)
    (case e_CHECKS => first | k_is | rfl)
    (case s_CHECKS => first | k_is | rfl)
    (case hh_CHECKS_0 => first | k_is | rfl)
    (case hh_CHECKS_1 => first | k_is | rfl)
    (case hh_CHECKS_2 => first | k_is | rfl)
    (case hh_CHECKS_3 => first | k_is | rfl)
    (case hh_CHECKS_4 => first | k_is | rfl)
    (case hh_CHECKS_5 => first | k_is | rfl)
    (case hh_CHECKS_6 => first | k_is | rfl)
    (case hh_CHECKS_7 => first | k_is | rfl)
    (case hh_CHECKS_8 => first | k_is | rfl)
    (case hh_CHECKS_9 => first | k_is | rfl)
