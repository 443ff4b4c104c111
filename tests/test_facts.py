import copy
import unittest
from itertools import permutations

from onlyasked.errors import BadFacts, NoName, Unlike
from onlyasked.facts import Facts
from samples import any_values, raised, same

PAIRS = (("a", True), ("a.n", 5), ("b.w", "lo"), ("c", False))


class FactsTest(unittest.TestCase):
    def test_example(self):
        facts = Facts((("a.n", 5),)) | Facts((("a", True),))
        self.assertTrue(same([facts.names, facts["a.n"], "b" in facts, len(facts)], [("a", "a.n"), 5, False, 2]))

    def test_methods_stand_in_the_class(self):
        self.assertEqual(Facts.__module__, "onlyasked.facts")
        for name in ("__init__", "__getitem__", "__contains__", "__len__", "__or__", "__eq__", "only"):
            self.assertIn(name, vars(Facts))

    def test_none(self):
        for facts in (Facts(), Facts(()), Facts(pairs=())):
            self.assertEqual([facts.names, facts.pairs, len(facts)], [(), (), 0])

    def test_pairs_in_any_sequence(self):
        for pairs in permutations(PAIRS):
            facts = Facts(pairs)
            self.assertTrue(same(facts.pairs, PAIRS))
            self.assertEqual(facts.names, ("a", "a.n", "b.w", "c"))
            self.assertEqual(len(facts), 4)
            self.assertTrue(facts == Facts(PAIRS))
            self.assertTrue(same([facts[name] for name, _ in PAIRS], [True, 5, "lo", False]))

    def test_names_and_values_of_all_sorts(self):
        pairs = (("", 0), (" x\n", -1), ("1", 10 ** 30), ("a", ""), ("b", "b"), ("c", True), ("no", False))
        self.assertTrue(same(Facts(pairs).pairs, pairs))

    def test_names_ascend_as_strings(self):
        self.assertEqual(Facts((("b", 1), ("a.b", 2), ("B", 3), ("a", 4), ("ab", 5))).names, ("B", "a", "a.b", "ab", "b"))

    def test_bad_facts(self):
        for value in [
            *[one for one in any_values() if one != ()],
            [("a", 1)], (["a", 1],), ("a", 1), (("a",),), (("a", 1, 2),), ((),), ("ab",), ((1, 1),), ((None, 1),),
            ((True, 1),), ((("a",), 1),), ((["a"], 1),), (("a", None),), (("a", ()),), (("a", (1,)),), (("a", [1]),),
            (("a", {}),), (("a", 1), ("a", 1)), (("a", 1), ("b", 1), ("a", 2)), (("a", True), ("a", 1)), {"a": 1},
            (("a", 1), None), (("a", 1), "b"), (("a", 1), ("b", None)), [], {}, (("a", Facts()),), Facts(),
        ]:
            with self.subTest(value):
                self.assertIs(raised(BadFacts, Facts, value), value)

    def test_an_item_that_is_not_there(self):
        facts = Facts(PAIRS)
        for value in [*[one for one in any_values() if one not in ("a", "a.n")], "b", "A", ("a",), ["a"], "a.n "]:
            with self.subTest(value):
                self.assertIs(raised(NoName, facts.__getitem__, value), value)
                with self.assertRaises(NoName):
                    facts[value]
                self.assertIs(value in facts, False)
        self.assertEqual(raised(NoName, Facts().__getitem__, "a"), "a")

    def test_names_that_are_there(self):
        for name in ("a", "a.n", "b.w", "c"):
            self.assertIs(name in Facts(PAIRS), True)
            self.assertIs(name in Facts(), False)
        self.assertIs("lo" in Facts(PAIRS), False)
        self.assertIs(5 in Facts(PAIRS), False)
        self.assertIs(("a", True) in Facts(PAIRS), False)

    def test_only(self):
        facts = Facts(PAIRS)
        self.assertTrue(same(facts.only(("c", "a")).pairs, (("a", True), ("c", False))))
        self.assertTrue(same(facts.only(names=("b.w", "x", "b.w")).pairs, (("b.w", "lo"),)))
        self.assertTrue(facts.only(()) == Facts())
        self.assertTrue(facts.only(("x", "b", "lo")) == Facts())
        self.assertTrue(facts.only(facts.names) == facts)
        self.assertIsInstance(facts.only(()), Facts)

    def test_facts_of_both(self):
        one, other = Facts(PAIRS[:2]), Facts(PAIRS[1:])
        self.assertTrue(same((one | other).pairs, PAIRS))
        self.assertTrue(same((other | one).pairs, PAIRS))
        self.assertIsInstance(one | other, Facts)
        for facts in (one, other, Facts()):
            self.assertTrue(facts | facts == facts)
            self.assertTrue(facts | Facts() == facts)
            self.assertTrue(Facts() | facts == facts)

    def test_unlike_with_the_least_name(self):
        one = Facts((("a", 1), ("b", 2), ("c", 3), ("d", "x")))
        for pairs, name in (
            ((("b", 3), ("c", 4)), "b"), ((("d", "y"), ("a", 1), ("c", 4)), "c"), ((("a", True),), "a"),
            ((("a", "1"),), "a"), ((("d", 0), ("e", 0)), "d"), ((("a", 1), ("b", 2), ("c", -3)), "c"),
        ):
            other = Facts(pairs)
            with self.subTest(pairs):
                self.assertEqual(raised(Unlike, one.__or__, other), name)
                self.assertEqual(raised(Unlike, other.__or__, one), name)
                with self.assertRaises(Unlike):
                    one | other
        self.assertEqual(raised(Unlike, Facts((("a", False),)).__or__, Facts((("a", 0),))), "a")

    def test_equal(self):
        self.assertTrue(Facts() == Facts())
        self.assertFalse(Facts() != Facts())
        self.assertTrue(Facts(PAIRS) == Facts(PAIRS[::-1]))
        self.assertFalse(Facts(PAIRS) != Facts(PAIRS[::-1]))

    def test_not_equal(self):
        for one, other in (
            ((("a", True),), (("a", 1),)), ((("a", 0),), (("a", False),)), ((("a", 1),), (("a", 2),)),
            ((("a", 1),), (("b", 1),)), ((("a", 1),), ()), ((("a", 1),), (("a", 1), ("b", 1))), ((("a", 1),), (("a", "1"),)),
            ((("a", "b"),), (("b", "a"),)), ((("a", ""),), (("a", False),)),
        ):
            with self.subTest((one, other)):
                self.assertFalse(Facts(one) == Facts(other))
                self.assertFalse(Facts(other) == Facts(one))
                self.assertTrue(Facts(one) != Facts(other))

    def test_facts_equal_nothing_else(self):
        for facts in (Facts(), Facts((("a", 1),)), Facts(PAIRS)):
            for value in [*any_values(), facts.pairs, facts.names, list(facts.pairs), dict(facts.pairs), object()]:
                if not isinstance(value, Facts):
                    with self.subTest(value):
                        self.assertFalse(facts == value)
                        self.assertFalse(value == facts)
                        self.assertTrue(facts != value)


class NothingChangesTest(unittest.TestCase):
    def check(self, facts, pairs):
        self.assertTrue(same(facts.pairs, pairs))
        self.assertEqual(facts.names, tuple([name for name, _ in pairs]))
        self.assertEqual(len(facts), len(pairs))
        self.assertTrue(all(name in facts and same(facts[name], value) for name, value in pairs))

    def test_what_was_handed_in(self):
        pairs = PAIRS[::-1]
        before = copy.deepcopy(pairs)
        facts = Facts(pairs)
        names = ("c", "a", "x")
        facts.only(names)
        self.assertEqual(pairs, before)
        self.assertEqual(names, ("c", "a", "x"))
        for value in ([["a", 1]], {"a": [1]}, ([["a"]],)):
            before = copy.deepcopy(value)
            raised(BadFacts, Facts, value)
            raised(NoName, facts.__getitem__, value)
            self.assertNotIn(value, facts)
            self.assertEqual(value, before)

    def test_what_was_made_before(self):
        one, other = Facts(PAIRS[:2]), Facts(PAIRS[1:])
        both = one | other
        few = both.only(("a", "c"))
        raised(Unlike, both.__or__, Facts((("b.w", "hi"), ("d", 1))))
        raised(NoName, both.__getitem__, "d")
        self.assertFalse(one == other)
        self.check(one, PAIRS[:2])
        self.check(other, PAIRS[1:])
        self.check(both, PAIRS)
        self.check(few, (PAIRS[0], PAIRS[3]))
        self.check(Facts(), ())


if __name__ == "__main__":
    unittest.main()
