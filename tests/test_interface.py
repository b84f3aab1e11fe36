"""The interface: where each name stands, what it takes, and the examples as the document has them."""

import importlib
import inspect
import os
import unittest

from threeways.desks import Desk

HERE = os.path.dirname(__file__)

DOCUMENT = os.path.join(HERE, "..", "..", "shared", "DOC.md")

README = os.path.join(HERE, "..", "README.md")

FUNCTIONS = {
    "ways": {
        "is_way": ["value"], "all_ways": [], "turned": ["way"], "merge": ["way", "base", "mine", "yours"],
    },
    "promises": {
        "promises": [], "profile": ["way"], "keeps": ["way", "promise"], "counterexample": ["way", "promise"],
        "count_values": ["promise"],
    },
    "maps": {
        "can_hold": ["wanted"], "keepers": ["wanted"], "can_add": ["wanted"], "greatest_sets": [],
        "least_clashes": [], "clashes": ["wanted"], "nearest": ["way", "wanted"],
    },
    "many": {
        "merge_many": ["way", "base", "versions"], "count_outcomes": ["way", "base", "versions"],
        "orders_agree": ["way", "base", "versions"], "groups_agree": ["way", "base", "versions"],
    },
    "documents": {"merge_documents": ["way", "base", "mine", "yours"], "changed_names": ["one", "other"]},
    "texts": {
        "write_way": ["way"], "write_document": ["document"], "read_way": ["text"], "read_document": ["text"],
    },
    "desks": {"Desk": ["way"]},
}

METHODS = {"run": ["self", "line"], "undo": ["self"]}

PROPERTIES = ("documents", "merge")

EXAMPLES = {
    "ways": '''\
>>> from threeways.ways import all_ways, is_way, merge, turned
>>> plain = ("base", "mine", "yours", "mine", "refuse")
>>> [len(all_ways()), merge(plain, 1, 2, 1), merge(plain, 1, 2, 2), merge(plain, 1, 2, 3), merge(plain, None, 5, None)]
[216, 2, 2, 'refused', 5]
>>> [is_way(plain), is_way(("mine",) + plain[1:]), turned(("base", "mine", "base", "mine", "mine"))]
[True, False, ('base', 'base', 'yours', 'mine', 'yours')]
>>> merge(plain, 1, 2, 1000)
raises BadValue
''',
    "promises": '''\
>>> from threeways.promises import count_values, counterexample, keeps, profile, promises
>>> plain = ("base", "mine", "yours", "mine", "refuse")
>>> [len(promises()), profile(plain)]
[12, ('again', 'agreed', 'ahead', 'chain', 'fair', 'mine', 'quiet', 'told', 'yours')]
>>> [counterexample(plain, "back"), counterexample(plain, "made"), counterexample(plain, "fair"), \
count_values("steps"), keeps(plain, "steps")]
[(0, 1, 1), (0, 1, 2), None, 4, False]
>>> keeps(plain, "safe")
raises BadPromise
''',
    "maps": '''\
>>> from threeways.maps import can_add, can_hold, clashes, greatest_sets, keepers, least_clashes, nearest
>>> plain = ("base", "mine", "yours", "mine", "refuse")
>>> [keepers(("agreed", "fair", "mine", "quiet", "told", "yours")), can_hold(("made", "mine", "yours")), \
can_hold(("fair", "made", "steps"))]
[(('base', 'mine', 'yours', 'mine', 'refuse'),), True, False]
>>> [len(least_clashes()), len(greatest_sets()), clashes(("agreed", "back", "made")), \
can_add(("agreed", "fair", "mine"))]
[21, 10, (('agreed', 'back'), ('back', 'made')), ('again', 'ahead', 'chain', 'made', 'quiet', 'told', 'yours')]
>>> [nearest(plain, ("ahead", "back", "mine", "yours")), nearest(plain, ("agreed", "back"))]
[('base', 'mine', 'yours', 'refuse', 'refuse'), None]
>>> keepers(("made", "fair"))
raises BadPromises
''',
    "many": '''\
>>> from threeways.many import count_outcomes, groups_agree, merge_many, orders_agree
>>> own, plain = ("base", "mine", "yours", "mine", "mine"), ("base", "mine", "yours", "mine", "refuse")
>>> [merge_many(own, 0, (1, 2, 3)), count_outcomes(own, 0, (1, 2, 3)), groups_agree(own, 0, (1, 2, 3)), \
merge_many(plain, 0, (1, 2, 1))]
[1, 3, True, 'refused']
>>> [orders_agree(plain, 0, (0, 4, 0, 4)), merge_many(plain, 7, ())]
[True, 7]
>>> merge_many(plain, 0, (1, "2"))
raises BadVersions
''',
    "documents": '''\
>>> from threeways.documents import changed_names, merge_documents
>>> base, mine, yours = (("a", 1), ("b", 1), ("c", 1)), (("a", 2), ("b", 1)), (("a", 3), ("b", 7), ("c", 1))
>>> merge_documents(("base", "mine", "yours", "mine", "refuse"), base, mine, yours)
((('b', 7),), ('a',))
>>> [changed_names(base, mine), changed_names(base, yours)]
[('a', 'c'), ('a', 'b')]
>>> changed_names((("b", 1), ("a", 1)), base)
raises BadDocument
''',
    "texts": '''\
>>> from threeways.texts import read_document, read_way, write_document, write_way
>>> [write_way(("base", "mine", "yours", "mine", "refuse")), read_way("refuse base base base base")[0], \
write_document((("a", 1), ("b", 20))), read_document("")]
['base mine yours mine refuse', 'refuse', 'a=1 b=20', ()]
>>> read_document("b=1 a=2")
raises InvalidText
''',
    "desks": '''\
>>> from threeways.desks import Desk
>>> desk = Desk(("base", "mine", "yours", "mine", "refuse"))
>>> [desk.run(line) for line in ("base a 1", "mine a 2", "yours a 3", "yours b 5", "merge", "refused", "yours a 1", \
"merge", "refused")]
[None, None, None, None, 'b=5', 'a', None, 'a=2 b=5', 'none']
>>> [desk.undo(), desk.merge, desk.documents[0]]
[None, ((('b', 5),), ('a',)), (('a', 1),)]
>>> desk.run("hers a 1")
raises InvalidText
''',
}


def answers(example):
    """Return pairs of what the lines of an example should show and what they show."""
    names = {}
    lines = example.splitlines()
    pairs = []
    for line, follower in zip(lines, lines[1:] + [""]):
        if line.startswith(">>> ") and (follower.startswith(">>> ") or not follower):
            exec(line[4:], names)
        elif line.startswith(">>> "):
            pairs.append((follower, shown(line[4:], names)))
    return pairs


def shown(line, names):
    try:
        return repr(eval(line, names))
    except ValueError as error:
        return "raises " + error.__class__.__name__


class InterfaceTest(unittest.TestCase):

    def test_defined_in_their_files_with_their_arguments(self):
        for file, functions in FUNCTIONS.items():
            module = importlib.import_module("threeways." + file)
            for name, arguments in functions.items():
                with self.subTest(name=name):
                    function = getattr(module, name)
                    self.assertEqual(function.__module__, "threeways." + file)
                    self.assertEqual(list(inspect.signature(function).parameters), arguments)

    def test_the_class(self):
        self.assertIsInstance(Desk, type)
        for name, arguments in METHODS.items():
            with self.subTest(name=name):
                self.assertEqual(list(inspect.signature(vars(Desk)[name]).parameters), arguments)
        for name in PROPERTIES:
            with self.subTest(name=name):
                self.assertIsInstance(vars(Desk)[name], property)

    def assert_shows(self, example):
        pairs = answers(example)
        self.assertEqual(len(pairs), len([line for line in example.splitlines() if not line.startswith(">>> ")]))
        for expected, got in pairs:
            with self.subTest(expected=expected):
                self.assertEqual(got, expected)

    def test_examples(self):
        self.assertEqual(set(EXAMPLES), set(FUNCTIONS))
        for example in EXAMPLES.values():
            self.assert_shows(example)

    def test_examples_of_the_readme(self):
        with open(README, encoding="utf-8") as readme:
            blocks = [block for block in readme.read().split("```\n") if block.startswith(">>> ")]
        self.assertGreater(len(blocks), 0)
        self.assert_shows("".join(blocks))

    @unittest.skipUnless(os.path.isfile(DOCUMENT), "the document does not lie beside the project")
    def test_examples_stand_so_in_the_document(self):
        with open(DOCUMENT, encoding="utf-8") as document:
            text = document.read()
        for file, example in EXAMPLES.items():
            with self.subTest(file=file):
                self.assertIn("```\n" + example + "```", text)


if __name__ == "__main__":
    unittest.main()
