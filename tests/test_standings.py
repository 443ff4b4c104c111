import copy
import unittest
from itertools import permutations

from onlyasked import standings
from onlyasked.errors import BadFacts, NoName
from onlyasked.facts import Facts
from onlyasked.programs import Program
from onlyasked.standings import Known
from samples import LOAN, any_values, raised, same

LINES = (("a", True, 1), ("a.n", 5, 0), ("b.w", "lo", None), ("c.x", False, 3), ("d.n", 0, 2))
TEXT = """round 0
source a price 1{}
  n 0..9
  w lo hi
source ab price 1 stay 1
  x yes
source b price 1 stay 3 maybe
  x yes
  n 0..9
otherwise go"""


class KnownTest(unittest.TestCase):
    def test_example(self):
        known = Known((("a.x", True, 0), ("b.x", False, None), ("b.y", True, 2)))
        told = [known.later().lines, known.life("b.x")]
        self.assertTrue(same(told, [(("b.x", False, None), ("b.y", True, 1)), None]))

    def test_it_is_defined_here_with_all_its_methods(self):
        self.assertEqual(Known.__module__, "onlyasked.standings")
        self.assertIs(standings.Known, Known)
        for name in ("__init__", "__eq__", "life", "later", "answered"):
            self.assertIn(name, vars(Known))

    def test_nothing_known(self):
        for known in (Known(), Known(()), Known(lines=())):
            self.assertEqual(known.lines, ())
            self.assertTrue(known.facts == Facts())
            self.assertIsInstance(known.facts, Facts)

    def test_lines_in_any_sequence(self):
        for lines in permutations(LINES):
            known = Known(lines)
            self.assertTrue(same(known.lines, LINES))
            self.assertTrue(same(known.facts.pairs, tuple([line[:2] for line in LINES])))
            self.assertTrue(known == Known(LINES))

    def test_names_ascend_as_strings(self):
        names = ("b", "a.b", "B", "a", "ab", "", " x\n")
        known = Known(tuple([(name, 1, 0) for name in names]))
        self.assertEqual([line[0] for line in known.lines], sorted(names))

    def test_values_and_lives_of_all_sorts(self):
        lines = (("a", 10 ** 30, 0), ("b", -1, 1), ("c", "", 2), ("d", "x" * 20000, 3), ("e", True, None), ("f", False, 0))
        self.assertTrue(same(Known(lines).lines, lines))

    def test_lives(self):
        for life in (0, 1, 2, 3, None):
            known = Known((("a", 1, life),))
            self.assertTrue(same(known.life("a"), life))
            self.assertTrue(same(known.life(name="a"), life))
        self.assertTrue(same([Known(LINES).life(line[0]) for line in LINES], [1, 0, None, 3, 2]))


class BadFactsTest(unittest.TestCase):
    def bad(self, value):
        with self.subTest(value):
            self.assertIs(raised(BadFacts, Known, value), value)

    def test_values_of_any_kind(self):
        for value in any_values():
            if value != ():
                self.bad(value)
                self.bad((value,))
                self.bad((("a", 1, 0), value))

    def test_lives_that_are_none(self):
        for life in (-1, 4, 10 ** 30, True, False, "0", "", "ever", (), (0,), [0], [], {}, Facts(), Known()):
            self.bad((("a", 1, life),))
            self.bad((("b", 1, 0), ("a", 1, life)))

    def test_lines_that_are_none(self):
        for line in (("a", 1), ("a",), (), ("a", 1, 0, 0), ["a", 1, 0], (["a"], 1, 0), (1, 1, 0), (None, 1, 0), (True, 1, 0),
                     (("a",), 1, 0), ("a", None, 0), ("a", (), 0), ("a", (1,), 0), ("a", [1], 0), ("a", {}, 0), "a10",
                     {"a": 1}, ("a", Facts(), 0), ("a", Known(), 0)):
            self.bad((line,))
            self.bad((line, ("z", 1, 0)))

    def test_what_is_no_tuple_of_lines(self):
        for value in (("a", 1, 0), [("a", 1, 0)], {"a": (1, 0)}, ((("a", 1, 0),),), Known(LINES), Known(LINES).facts):
            self.bad(value)

    def test_a_name_twice(self):
        for lines in ((("a", 1, 0), ("a", 1, 0)), (("a", 1, 0), ("b", 1, 0), ("a", 2, 0)), (("a", 1, 0), ("a", 1, None))):
            self.bad(lines)


class LifeTest(unittest.TestCase):
    def test_no_name(self):
        known = Known(LINES)
        for value in [*[one for one in any_values() if one not in ("a", "a.n")], "b", "A", "a.", "a.n ", ("a",), ["a"],
                      ("a", True, 1), LINES, "lo", 5]:
            with self.subTest(value):
                self.assertIs(raised(NoName, known.life, value), value)
                self.assertIs(raised(NoName, Known().life, value), value)


class LaterTest(unittest.TestCase):
    def test_each_round(self):
        known = Known(LINES)
        rounds = [
            (("a", True, 0), ("b.w", "lo", None), ("c.x", False, 2), ("d.n", 0, 1)),
            (("b.w", "lo", None), ("c.x", False, 1), ("d.n", 0, 0)),
            (("b.w", "lo", None), ("c.x", False, 0)),
            (("b.w", "lo", None),),
            (("b.w", "lo", None),),
        ]
        for lines in rounds:
            known = known.later()
            self.assertIsInstance(known, Known)
            self.assertTrue(same(known.lines, lines))
            self.assertTrue(same(known.facts.pairs, tuple([line[:2] for line in lines])))
        self.assertTrue(Known().later() == Known())


class AnsweredTest(unittest.TestCase):
    def answered(self, stay, lines, source, answer):
        return Known(lines).answered(Program(TEXT.format(stay)), source, answer).lines

    def test_the_stay_of_the_source(self):
        for stay, life in (("", None), (" stay 0", 0), (" stay 1", 1), (" stay 3", 3)):
            told = self.answered(stay, (), "a", (7, "hi"))
            self.assertTrue(same(told, (("a.n", 7, life), ("a.w", "hi", life))))

    def test_a_maybe_source_tells_whether_it_is_there(self):
        told = self.answered("", (), "b", (False, 2))
        self.assertTrue(same(told, (("b", True, 3), ("b.n", 2, 3), ("b.x", False, 3))))
        self.assertTrue(same(self.answered("", (), "b", None), (("b", False, 3),)))

    def test_an_answer_takes_the_place_of_all_of_its_source(self):
        for life in (0, 1, 2, 3, None):
            lines = (("a.n", 3, life), ("ab.x", True, 0), ("b", True, life), ("b.x", True, life))
            self.assertTrue(same(
                self.answered(" stay 0", lines, "a", (7, "lo")),
                (("a.n", 7, 0), ("a.w", "lo", 0), ("ab.x", True, 0), ("b", True, life), ("b.x", True, life))))
            self.assertTrue(same(
                self.answered("", lines, "b", None), (("a.n", 3, life), ("ab.x", True, 0), ("b", False, 3))))
            self.assertTrue(same(
                self.answered("", (("b", False, life),), "b", (True, 0)),
                (("b", True, 3), ("b.n", 0, 3), ("b.x", True, 3))))

    def test_sources_whose_names_begin_alike(self):
        lines = (("a.n", 3, 2), ("a.w", "hi", None), ("ab.x", True, None))
        self.assertTrue(same(self.answered("", lines, "ab", (False,)), (*lines[:2], ("ab.x", False, 1))))
        self.assertTrue(same(
            self.answered("", lines, "a", (0, "lo")), (("a.n", 0, None), ("a.w", "lo", None), lines[2])))

    def test_values_that_are_no_marks_stay_what_they_are(self):
        told = Known().answered(answer=(77, "outside"), source="person", program=Program(LOAN))
        self.assertTrue(same(told.lines, (("person.age", 77, 2), ("person.home", "outside", 2))))

    def test_it_is_a_known(self):
        known = Known().answered(Program(LOAN), "work", None)
        self.assertTrue(known == Known((("work", False, 1),)))
        self.assertIs(known.facts["work"], False)


class EqualTest(unittest.TestCase):
    def test_equal(self):
        self.assertTrue(Known() == Known(()))
        self.assertFalse(Known() != Known())
        self.assertTrue(Known(LINES) == Known(LINES[::-1]))
        self.assertFalse(Known(LINES) != Known(LINES[::-1]))
        self.assertTrue(Known(LINES) == Known(Known(LINES).lines))

    def test_each_part_of_a_line_counts(self):
        for one, other in (
            (("a", True, 0), ("a", 1, 0)), (("a", 0, 0), ("a", False, 0)), (("a", 1, 0), ("a", 2, 0)),
            (("a", 1, 0), ("b", 1, 0)), (("a", 1, 0), ("a", 1, 1)), (("a", 1, 0), ("a", 1, None)),
            (("a", "b", 0), ("b", "a", 0)), (("a", 1, 0), ("a", "1", 0)), (("a", 1, 3), ("a", 1, None)),
        ):
            with self.subTest((one, other)):
                self.assertFalse(Known((one,)) == Known((other,)))
                self.assertTrue(Known((one,)) != Known((other,)))
                self.assertFalse(Known((("z", 1, 1), one)) == Known((("z", 1, 1), other)))
        self.assertFalse(Known((("a", 1, 0),)) == Known())
        self.assertFalse(Known((("a", 1, 0),)) == Known((("a", 1, 0), ("b", 1, 0))))
        self.assertFalse(Known((("a", 1, 0), ("b", 1, 1))) == Known((("a", 1, 1), ("b", 1, 0))))

    def test_a_known_equals_nothing_else(self):
        for known in (Known(), Known((("a", 1, 0),)), Known(LINES)):
            for value in [*any_values(), known.lines, known.facts, list(known.lines), object()]:
                if not isinstance(value, Known):
                    with self.subTest(value):
                        self.assertFalse(known == value)
                        self.assertFalse(value == known)
                        self.assertTrue(known != value)


class NothingChangesTest(unittest.TestCase):
    def test_what_was_made_before(self):
        loan = Program(LOAN)
        known = Known((("person.age", 12, 0), ("work", False, 2), ("market.open", True, None)))
        lines, facts = known.lines, known.facts
        later = known.later()
        other = known.answered(loan, "person", (50, "inside")).answered(loan, "work", (1, True))
        raised(NoName, known.life, "person")
        self.assertIs(known.lines, lines)
        self.assertIs(known.facts, facts)
        self.assertTrue(same(lines, (("market.open", True, None), ("person.age", 12, 0), ("work", False, 2))))
        self.assertTrue(same(known.life("person.age"), 0))
        self.assertTrue(same(later.lines, (("market.open", True, None), ("work", False, 1))))
        self.assertTrue(same(other.lines[1], ("person.age", 50, 2)))
        self.assertEqual(loan.text, LOAN)
        self.assertTrue(known.later() == later)

    def test_what_was_handed_in(self):
        lines = LINES[::-1]
        Known(lines).later()
        self.assertEqual(lines, LINES[::-1])
        for value in ([["a", 1, 0]], {"a": [1]}, ([["a"]],), (["a", 1, 0],)):
            before = copy.deepcopy(value)
            raised(BadFacts, Known, value)
            raised(NoName, Known().life, value)
            self.assertEqual(value, before)


if __name__ == "__main__":
    unittest.main()
