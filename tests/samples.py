"""Arguments for the tests: some right ones, and wrong ones for each kind of argument."""

PLAIN = ("base", "mine", "yours", "mine", "refuse")
OWN = ("base", "mine", "yours", "mine", "mine")
ALL_BASE = ("base",) * 5
ALL_REFUSE = ("refuse",) * 5

SOME_VALUES = (None, 0, 1, 999)

NO_VALUES = (
    True, False, -1, 1000, 10 ** 40, -10 ** 40,
    "", "1", "none", "None", "refused", "base",
    (), (1,), (None,), (1, 2), [], [1], [None], {}, {1: 1}, {"a": None},
)

NO_WAYS = (
    None, True, False, 0, 5, -1, "", "base", "mine", "base mine yours mine refuse",
    (), [], {}, {"base": "mine"}, dict.fromkeys(("base", "mine", "yours", "refuse")),
    list(PLAIN), list(ALL_BASE), (PLAIN,), [PLAIN], {PLAIN: PLAIN},
    PLAIN[:4], PLAIN[1:], PLAIN + ("refuse",), PLAIN + ("base",), PLAIN + PLAIN, ("base",),
    ("mine",) + PLAIN[1:], ("yours",) + PLAIN[1:],
    ("base", "yours", "yours", "mine", "refuse"), ("base", "mine", "mine", "mine", "refuse"),
    ("base", "mine", "yours", "yours", "refuse"), ("base", "mine", "yours", "mine", "both"),
    ("base", "mine", "yours", "mine", "refused"), ("base", "mine", "yours", "mine", "Refuse"),
    ("base", "mine", "yours", "mine", ""), ("base", "mine", "yours", "mine", "ref"),
    ("base ", "mine", "yours", "mine", "refuse"), ("", "", "", "", ""),
    (None,) * 5, (True,) * 5, (0, 1, 2, 3, 4), ("base", "mine", "yours", "mine", None),
    (("base",), "mine", "yours", "mine", "refuse"), ("base", ["mine"], "yours", "mine", "refuse"),
    ("base", "mine", {"yours": 1}, "mine", "refuse"), ("base", "mine", "yours", {}, "refuse"),
    ("base", "mine", "yours", "mine", []), ("base", "mine", "yours", "mine", ()),
)

NO_PROMISES = (
    None, True, False, 0, 1, "", "safe", "Again", "again ", " again", "agai", "again agreed", "refused",
    (), ("again",), ("again", "agreed"), [], ["again"], {}, {"again": "again"},
)

NO_WANTED = (
    None, True, False, 0, 12, "", "again", "again agreed",
    [], ["again"], ["again", "agreed"], {}, {"again": "agreed"},
    ("made", "fair"), ("yours", "again"), ("again", "ahead", "agreed"), ("again", "fair", "made", "chain"),
    ("fair", "fair"), ("again", "again", "made"), ("again", "made", "made"),
    ("safe",), ("again", "safe"), ("again", "Fair"), ("",), ("again", ""), ("aga",),
    (None,), (True,), (0,), ("again", None), ("again", 1),
    (("again",),), (["again"],), ({"again": 1},), ({},), ("again", ["made"]), ("again", ("made",)),
    ("again", {"made": 1}), ((),), ([],), (("again", "agreed"),),
)
