"""Things that several tests share: one of each JOB and RULE, STORES, and how they are written."""

import copy

SAID = ("said", "bob")
LINK = ("link", "dept", 0)

# Each with its text, its FORM and its FILLS.
JOBS = (
    (("put", "emp", "land", (7, ("said", "ann"), LINK)), "put emp land / 7 'ann @dept.0",
     "put emp land ? ? ?", (7, ("said", "ann"), LINK)),
    (("put", "emp", "eu", ()), "put emp eu /", "put emp eu", ()),
    (("put", "emp", "eu", (None,)), "put emp eu / -", "put emp eu ?", (None,)),
    (("set", "emp", 3, 1, SAID), "set emp 3 1 'bob", "set emp # 1 ?", (3, SAID)),
    (("set", "emp", 3, 0, None), "set emp 3 0 -", "set emp # 0 ?", (3, None)),
    (("add", "emp", 3, 0, -2), "add emp 3 0 -2", "add emp # 0 #", (3, -2)),
    (("add", "emp", 3, 10, 0), "add emp 3 10 0", "add emp # 10 #", (3, 0)),
    (("drop", "emp", 3), "drop emp 3", "drop emp #", (3,)),
    (("index", "emp", 0), "index emp 0", "index emp 0", ()),
    (("get", "emp", 3), "get emp 3", "get emp #", (3,)),
    (("rows", "emp", ((0, "=", 7),), 5), "rows emp 0=7 5", "rows emp 0=? #", (7, 5)),
    (("rows", "emp", ((0, "=", 7), (1, "<", ("said", "a b"))), 5), "rows emp 0=7,1<'a^_b 5",
     "rows emp 0=? 1<? #", (7, ("said", "a b"), 5)),
    (("rows", "emp", (), 0), "rows emp - 0", "rows emp #", (0,)),
    (("count", "emp", ()), "count emp -", "count emp", ()),
    (("count", "emp", ((2, "=", None), (2, ">", -1))), "count emp 2=-,2>-1", "count emp 2=? 2>?", (None, -1)),
    (("sum", "emp", 0, ((1, ">", 3),)), "sum emp 0 1>3", "sum emp 0 1>?", (3,)),
    (("sum", "emp", 4, ()), "sum emp 4 -", "sum emp 4", ()),
    (("follow", "emp", 3, 2), "follow emp 3 2", "follow emp # 2", (3,)),
)

RULES = (
    (("kept", "eu", 4), "kept eu 4"),
    (("stay", "eu"), "stay eu"),
    (("struck", "eu", 9), "struck eu 9"),
    (("told", "eu"), "told eu"),
)

STORE = (
    ("dept", 1, ((0, "eu", 0, ()),), ()),
    ("emp", 5, ((0, "eu", 2, (7, ("said", "a, b^c"), LINK)), (3, "us", 4, (None, -2))), (0, 2)),
    ("void", 0, (), (1,)),
)

STORE_TEXT = """table dept 1 -
0 eu 0 /
table emp 5 0,2
0 eu 2 / 7 'a^.^_b^^c @dept.0
3 us 4 / - -2
table void 0 1"""


def bent(thing, path, other):
    """A thing whose part at a path of places is another one."""
    if not path:
        return other
    place = path[0]
    return thing[:place] + (bent(thing[place], path[1:], other),) + thing[place + 1:]


def kept_whole(test, call, *things):
    """What a call tells of things; it fails where the things are other ones behind it."""
    ahead = copy.deepcopy(things)
    told = call(*things)
    test.assertEqual(repr(things), repr(ahead))
    return told


def refusal(test, error, call, *things, **more):
    """The fields of the error by which a call is refused."""
    with test.assertRaises(error) as caught:
        call(*things, **more)
    test.assertIs(caught.exception.__class__, error)
    return vars(caught.exception)
