"""Arguments for the tests: some right ones, and wrong ones for each kind of argument."""

PLAIN = ("base", "mine", "yours", "mine", "refuse")
OWN = ("base", "mine", "yours", "mine", "mine")
ALL_BASE = ("base",) * 5
ALL_REFUSE = ("refuse",) * 5

SOME_VALUES = (None, 0, 1, 999)

NO_VALUES = (
    True, False, -1, 1000, 10 ** 40, -10 ** 40,
    "", "1", "none", "None", "refused", "base",
    (), (1,), (None,), (1, 2), [], [1], [None], {}, {1: 1}, {"a": None},
)

NO_WAYS = (
    None, True, False, 0, 5, -1, "", "base", "mine", "base mine yours mine refuse",
    (), [], {}, {"base": "mine"}, dict.fromkeys(("base", "mine", "yours", "refuse")),
    list(PLAIN), list(ALL_BASE), (PLAIN,), [PLAIN], {PLAIN: PLAIN},
    PLAIN[:4], PLAIN[1:], PLAIN + ("refuse",), PLAIN + ("base",), PLAIN + PLAIN, ("base",),
    ("mine",) + PLAIN[1:], ("yours",) + PLAIN[1:],
    ("base", "yours", "yours", "mine", "refuse"), ("base", "mine", "mine", "mine", "refuse"),
    ("base", "mine", "yours", "yours", "refuse"), ("base", "mine", "yours", "mine", "both"),
    ("base", "mine", "yours", "mine", "refused"), ("base", "mine", "yours", "mine", "Refuse"),
    ("base", "mine", "yours", "mine", ""), ("base", "mine", "yours", "mine", "ref"),
    ("base ", "mine", "yours", "mine", "refuse"), ("", "", "", "", ""),
    (None,) * 5, (True,) * 5, (0, 1, 2, 3, 4), ("base", "mine", "yours", "mine", None),
    (("base",), "mine", "yours", "mine", "refuse"), ("base", ["mine"], "yours", "mine", "refuse"),
    ("base", "mine", {"yours": 1}, "mine", "refuse"), ("base", "mine", "yours", {}, "refuse"),
    ("base", "mine", "yours", "mine", []), ("base", "mine", "yours", "mine", ()),
)

NO_PROMISES = (
    None, True, False, 0, 1, "", "safe", "Again", "again ", " again", "agai", "again agreed", "refused",
    (), ("again",), ("again", "agreed"), [], ["again"], {}, {"again": "again"},
)

NO_WANTED = (
    None, True, False, 0, 12, "", "again", "again agreed",
    [], ["again"], ["again", "agreed"], {}, {"again": "agreed"},
    ("made", "fair"), ("yours", "again"), ("again", "ahead", "agreed"), ("again", "fair", "made", "chain"),
    ("fair", "fair"), ("again", "again", "made"), ("again", "made", "made"),
    ("safe",), ("again", "safe"), ("again", "Fair"), ("",), ("again", ""), ("aga",),
    (None,), (True,), (0,), ("again", None), ("again", 1),
    (("again",),), (["again"],), ({"again": 1},), ({},), ("again", ["made"]), ("again", ("made",)),
    ("again", {"made": 1}), ((),), ([],), (("again", "agreed"),),
)

# Pairs of a value that is no tuple of at most five values and the index of its error.
NO_VERSIONS = tuple((value, None) for value in (
    None, True, False, 0, 5, "", "123", "12345", [], [1, 2], {}, {1: 2}, {0: 1, 1: 2},
    (1, 2, 3, 4, 5, 6), (None,) * 6, (0,) * 7, (True,) * 6, (1, 2, 3, 4, 5, "6"), ("a", 1, 2, 3, 4, 5), (1,) * 1000,
)) + tuple(
    (before + (value, True) if len(before) < 4 else before + (value,), len(before))
    for before in ((), (1,), (None, 999), (0, 0, None), (4, 3, 2, 1)) for value in NO_VALUES
)

TWELVE = tuple((letter, number) for number, letter in enumerate("abcdefghijkl", 988))
THIRTEEN = tuple((letter, number) for number, letter in enumerate("abcdefghijklm"))

SOME_DOCUMENTS = (
    (), (("a", 0),), (("a", 999),), (("z", 1), ("za", 1), ("zb", 1)), (("none", 5),), (("abcdefghijkl", 7),),
    (("a", 1), ("aa", 1), ("aaa", 1), ("b", 1)), TWELVE,
)

NO_NAMES = (
    "", "abcdefghijklm", "z" * 1000, "A", "aB", "a1", "1", "a b", " a", "a ", "a_b", "a-b", "a=b", "a\n", "\n", "\t",
    "\u00e9", "\u00df", "\u0131", "\uff41", "\u00aa", None, True, 0, 5, (), ("a",), [], ["a"], {}, {"a": 1},
)

NO_INTEGERS = (
    None, True, False, -1, 1000, 10 ** 40, -10 ** 40, "", "1", "none", (), (1,), [], [1], {}, {1: 1},
)

NO_PAIRS = tuple((name, 5) for name in NO_NAMES) + tuple(("zz", integer) for integer in NO_INTEGERS) + (
    (), ("zz",), ("zz", 5, 6), ("zz", 5, "zz"), ["zz", 5], [("zz", 5)], (("zz", 5),), ("zz", ("zz", 5)), "zz", "zz=5", "z5",
    {"zz": 5}, {"zz": 0, "zzz": 1}, None, True, False, 0, 5, [], {}, (5, "zz"), (None, None), ("zz", None), (None, 5),
)

# Pairs of a value that is no document and the index of its error.
NO_DOCUMENTS = tuple((value, None) for value in (
    None, True, False, 0, 12, "", "a=1", [], [("a", 1)], [["a", 1]], {}, {"a": 1}, {("a", 1): 1},
    THIRTEEN, THIRTEEN + (("n", 1),), (None,) * 13, (("a", 1),) * 13, tuple(reversed(THIRTEEN)), ((),) * 1000,
)) + tuple(
    (before + (item,) + behind, len(before))
    for before in ((), (("a", 1),), (("a", 0), ("aa", 999), ("z", 1))) for behind in ((), (("a", 1), 5)) for item in NO_PAIRS
) + (
    ((("a", 1), ("a", 1)), 1), ((("a", 1), ("a", 2)), 1), ((("b", 1), ("a", 1)), 1), ((("aa", 1), ("a", 1)), 1),
    ((("a", 1), ("b", 1), ("a", 1)), 2), ((("a", 1), ("c", 1), ("b", 1), ("b", 1)), 2), ((("b", 1), ("a", "x")), 1),
    (TWELVE[:11] + (("k", 1),), 11), (TWELVE[:11] + (("a", 1),), 11), (TWELVE[:11] + (("l", 1000),), 11),
    ((("a", 1000), ("b", 1), ("b", 1)), 0), ((("a", 1), ("b", 1), ("b", 1), ("c", None)), 2), (((),) * 12, 0),
)

NO_STRINGS = (
    None, True, False, 0, 1, -1, 10 ** 40, (), ("",), ("a=1",), PLAIN, (("a", 1),), [], [""], ["base"], {}, {"": ""},
    {"base": 1},
)

# What is no integer from 0 to 999 without needless zeros, as a word of a text.
NO_NUMBERS = (
    "", "-1", "-0", "+1", "+0", "00", "000", "01", "007", "0999", "1000", "9999", "10000", "9" * 5000, "0" * 5000,
    "1_0", "1e2", "1.0", "1.", ".5", "0x1", "one", "None", "NONE", "non", "nones", "refused", "a", "1a", "a1", "1=",
    "=1", "==", "1,", "\u00b2", "\u0661", "\uff11", "1\n", "\n1", "\t1", "1\t", "1\r", "\u00a01",
)
