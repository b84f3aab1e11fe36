"""The interface: where each name stands, what it takes, and the examples as the document has them."""

import importlib
import inspect
import os
import unittest

DOCUMENT = os.path.join(os.path.dirname(__file__), "..", "..", "shared", "DOC.md")

FUNCTIONS = {
    "ways": {
        "is_way": ["value"], "all_ways": [], "turned": ["way"], "merge": ["way", "base", "mine", "yours"],
    },
    "promises": {
        "promises": [], "profile": ["way"], "keeps": ["way", "promise"], "counterexample": ["way", "promise"],
        "count_values": ["promise"],
    },
    "maps": {
        "can_hold": ["wanted"], "keepers": ["wanted"], "can_add": ["wanted"], "greatest_sets": [],
        "least_clashes": [], "clashes": ["wanted"], "nearest": ["way", "wanted"],
    },
}

EXAMPLES = {
    "ways": '''\
>>> from threeways.ways import all_ways, is_way, merge, turned
>>> plain = ("base", "mine", "yours", "mine", "refuse")
>>> [len(all_ways()), merge(plain, 1, 2, 1), merge(plain, 1, 2, 2), merge(plain, 1, 2, 3), merge(plain, None, 5, None)]
[216, 2, 2, 'refused', 5]
>>> [is_way(plain), is_way(("mine",) + plain[1:]), turned(("base", "mine", "base", "mine", "mine"))]
[True, False, ('base', 'base', 'yours', 'mine', 'yours')]
>>> merge(plain, 1, 2, 1000)
raises BadValue
''',
    "promises": '''\
>>> from threeways.promises import count_values, counterexample, keeps, profile, promises
>>> plain = ("base", "mine", "yours", "mine", "refuse")
>>> [len(promises()), profile(plain)]
[12, ('again', 'agreed', 'ahead', 'chain', 'fair', 'mine', 'quiet', 'told', 'yours')]
>>> [counterexample(plain, "back"), counterexample(plain, "made"), counterexample(plain, "fair"), \
count_values("steps"), keeps(plain, "steps")]
[(0, 1, 1), (0, 1, 2), None, 4, False]
>>> keeps(plain, "safe")
raises BadPromise
''',
    "maps": '''\
>>> from threeways.maps import can_add, can_hold, clashes, greatest_sets, keepers, least_clashes, nearest
>>> plain = ("base", "mine", "yours", "mine", "refuse")
>>> [keepers(("agreed", "fair", "mine", "quiet", "told", "yours")), can_hold(("made", "mine", "yours")), \
can_hold(("fair", "made", "steps"))]
[(('base', 'mine', 'yours', 'mine', 'refuse'),), True, False]
>>> [len(least_clashes()), len(greatest_sets()), clashes(("agreed", "back", "made")), \
can_add(("agreed", "fair", "mine"))]
[21, 10, (('agreed', 'back'), ('back', 'made')), ('again', 'ahead', 'chain', 'made', 'quiet', 'told', 'yours')]
>>> [nearest(plain, ("ahead", "back", "mine", "yours")), nearest(plain, ("agreed", "back"))]
[('base', 'mine', 'yours', 'refuse', 'refuse'), None]
>>> keepers(("made", "fair"))
raises BadPromises
''',
}


def answers(example):
    """Return pairs of what the lines of an example should show and what they show."""
    names = {}
    lines = example.splitlines()
    pairs = []
    for line, follower in zip(lines, lines[1:] + [""]):
        if line.startswith(">>> ") and (follower.startswith(">>> ") or not follower):
            exec(line[4:], names)
        elif line.startswith(">>> "):
            pairs.append((follower, shown(line[4:], names)))
    return pairs


def shown(line, names):
    try:
        return repr(eval(line, names))
    except ValueError as error:
        return "raises " + error.__class__.__name__


class InterfaceTest(unittest.TestCase):

    def test_defined_in_their_files_with_their_arguments(self):
        for file, functions in FUNCTIONS.items():
            module = importlib.import_module("threeways." + file)
            for name, arguments in functions.items():
                with self.subTest(name=name):
                    function = getattr(module, name)
                    self.assertEqual(function.__module__, "threeways." + file)
                    self.assertEqual(list(inspect.signature(function).parameters), arguments)

    def test_examples(self):
        for file, example in EXAMPLES.items():
            pairs = answers(example)
            self.assertEqual(len(pairs) + example.count("import") + example.count(">>> plain"), example.count(">>>"))
            for expected, got in pairs:
                with self.subTest(file=file, expected=expected):
                    self.assertEqual(got, expected)

    @unittest.skipUnless(os.path.isfile(DOCUMENT), "the document does not lie beside the project")
    def test_examples_stand_so_in_the_document(self):
        with open(DOCUMENT, encoding="utf-8") as document:
            text = document.read()
        for file, example in EXAMPLES.items():
            with self.subTest(file=file):
                self.assertIn("```\n" + example + "```", text)


if __name__ == "__main__":
    unittest.main()
