import inspect
import random
import unittest

import drawing
from onlyasked import answerers
from onlyasked.answerers import answerer, lines_for, sets_to_answer, shows_answerer
from onlyasked.errors import BadFact, Impossible
from onlyasked.facts import Facts
from onlyasked.plans import plan
from onlyasked.prices import Prices
from onlyasked.programs import Program
from onlyasked.settling import conflict
from onlyasked.standings import Known
from onlyasked.worlds import evaluate, is_world
from samples import BOTH, LOAN, POINTER, TWICE, any_values, raised, same
from searching import Search, standing_of

BOTH_PROGRAM, POINTER_PROGRAM, LOAN_PROGRAM = Program(BOTH), Program(POINTER), Program(LOAN)
YES, NO = (True,), (False,)
YEA, NAY = (YES, YES), (NO, NO)
NONE = ((("a",), None), (("a", "b"), None), (("b",), None))
FIRST = ((), 3, YEA, NAY, ((("a",), (YES,)), (("a", "b"), None), (("b",), (YES,))))
SECOND = ((("a.x", True, 0),), 1, YEA, (YES, NO), NONE)
THIRD = ((("b.x", True, 0),), 1, YEA, (NO, YES), NONE)


class ByTheWords:
    """Whether a value is an answerer, by the words of point 11 alone."""

    def __init__(self, program, rows=False):
        self.program = program
        self.rows = rows
        self.search = Search(program, rows)

    def agrees(self, standing, world):
        if not is_world(self.program, world):
            return False
        told = self.search.facts_of(world)
        return all(name in told and same(told[name], value) for name, (value, _) in standing.items())

    def is_for_ever(self, standing, source):
        names = {name for name in standing if name.split(".")[0] == source}
        gone = self.search.is_maybe(source) and source in names and standing[source][0] is False
        whole = gone or set(self.search.fields[source]) <= names
        return whole and all(standing[name][1] is None for name in names)

    def shows(self, known, price, value):
        if price <= 0:
            return same(value, ())
        if not isinstance(value, tuple) or not value or not same(value[0][0], known.lines):
            return False
        return same(value[0][1], price) and all(self.is_right(value, at) for at in range(len(value)))

    def is_right(self, value, at):
        """The line at this place; it must have the form of one."""
        lines, price, one, other, pairs = value[at]
        if not same(Known(lines).lines, lines) or type(price) is not int or price < 1:
            return False
        standing = standing_of(Known(lines))
        if not self.agrees(standing, one) or not self.agrees(standing, other):
            return False
        row = 1 if self.rows else 0
        if evaluate(self.program, one)[row] == evaluate(self.program, other)[row]:
            return False
        wanted = [sources for sources in sorted(self.search.choices())
                  if not all(self.is_for_ever(standing, source) for source in sources)]
        if not same(tuple(wanted), tuple(pair[0] for pair in pairs)):
            return False
        return all(self.is_answered(value, at, standing, pair) for pair in pairs)

    def is_answered(self, value, at, standing, pair):
        sources, answers = pair
        left = value[at][1] - self.search.ask_price(sources)
        if left <= 0:
            return answers is None
        if not any(same(answers, one) for one in self.search.answers(standing, sources)):
            return False
        behind = self.search.behind(standing, sources, answers)
        return any(standing_of(Known(line[0])) == behind and line[1] >= left for line in value[at + 1:])


def replaced(value, at, part):
    return (*value[:at], part, *value[at + 1:])


def shown(value, price=3, program=BOTH_PROGRAM, known=None, rows=False):
    return shows_answerer(program, Known() if known is None else known, price, value, rows=rows)


class NamesTest(unittest.TestCase):
    def test_they_are_defined_here(self):
        for name in ("answerer", "shows_answerer"):
            self.assertEqual(getattr(answerers, name).__module__, "onlyasked.answerers")

    def test_arguments_by_name(self):
        value = answerer(known=Known(), program=BOTH_PROGRAM, rows=False)
        self.assertIs(shows_answerer(value=value, price=3, known=Known(), program=BOTH_PROGRAM, rows=False), True)
        self.assertEqual(list(inspect.signature(answerer).parameters), ["program", "known", "rows"])
        self.assertEqual(list(inspect.signature(shows_answerer).parameters),
                         ["program", "known", "price", "value", "rows"])

    def test_rows_are_given_by_name_only(self):
        with self.assertRaises(TypeError):
            answerer(BOTH_PROGRAM, Known(), False)
        with self.assertRaises(TypeError):
            shows_answerer(BOTH_PROGRAM, Known(), 3, (), False)

    def test_rows_are_left_out_by_default(self):
        program = Program(TWICE)
        self.assertEqual(answerer(program, Known())[0][1], 2)
        self.assertEqual(answerer(program, Known(), rows=True)[0][1], 7)
        self.assertIs(shows_answerer(program, Known(), 2, answerer(program, Known())), True)
        self.assertIs(shows_answerer(program, Known(), 7, answerer(program, Known(), rows=True)), False)

    def test_equal_calls_return_equal_results(self):
        for program in (BOTH_PROGRAM, POINTER_PROGRAM, LOAN_PROGRAM):
            self.assertTrue(same(answerer(program, Known()), answerer(Program(program.text), Known())))


class ExampleTest(unittest.TestCase):
    def test_the_example(self):
        self.assertIs(shown((FIRST, SECOND, THIRD)), True)
        self.assertIs(shown((FIRST, SECOND)), False)

    def test_what_is_told_of_it(self):
        value = answerer(BOTH_PROGRAM, Known())
        self.assertIs(shown(value), True)
        self.assertEqual(len(value), 3)
        self.assertEqual([line[1] for line in value], [3, 1, 1])

    def test_other_sequences(self):
        self.assertIs(shown((FIRST, THIRD, SECOND)), True)
        for lines in ((SECOND, FIRST, THIRD), (SECOND, THIRD, FIRST), (THIRD, SECOND, FIRST)):
            self.assertIs(shown(lines), False)

    def test_a_line_missing(self):
        for lines in ((FIRST,), (FIRST, THIRD), (FIRST, SECOND), (SECOND, THIRD), ()):
            self.assertIs(shown(lines), False)

    def test_lines_twice_and_further_ones(self):
        self.assertIs(shown((FIRST, SECOND, THIRD, THIRD)), True)
        self.assertIs(shown((FIRST, FIRST, SECOND, THIRD)), True)
        further = ((("a.x", False, 2), ("b.x", True, None)), 1, (NO, YES), (NO, YES), NONE)
        self.assertIs(shown((FIRST, SECOND, THIRD, further)), False)
        further = ((("a.x", True, 2),), 2, YEA, (YES, NO), ((("a",), None), (("a", "b"), None), (("b",), None)))
        self.assertIs(shown((FIRST, SECOND, THIRD, further)), True)
        self.assertIs(shown((FIRST, further, SECOND, THIRD)), True)

    def test_a_further_line_that_is_not_right(self):
        for at in range(3):
            for line in (replaced(SECOND, 1, 3), replaced(SECOND, 2, (YES, NO)), replaced(SECOND, 4, ()), (), None, 1):
                lines = [FIRST, SECOND, THIRD]
                lines.insert(at + 1, line)
                self.assertIs(shown(tuple(lines)), False)

    def test_the_first_line_is_that_of_the_standing(self):
        self.assertIs(shown((SECOND,), 1), False)
        self.assertIs(shown((SECOND,), 1, known=Known((("a.x", True, 0),))), True)
        for other in (("a.x", True, 1), ("a.x", True, None), ("a.x", False, 0), ("b.x", True, 0)):
            self.assertIs(shown((SECOND,), 1, known=Known((other,))), False)

    def test_the_price_is_that_of_the_first_line(self):
        for price in (1, 2, 4, 5, 100):
            self.assertIs(shown((FIRST, SECOND, THIRD), price), False)
        for price in (0, -1, -3):
            self.assertIs(shown((FIRST, SECOND, THIRD), price), False)
            self.assertIs(shown((), price), True)

    def test_a_dearer_line(self):
        """(3 is what is needed at most behind an answer that is gone ahead of the next round.)"""
        self.assertIs(shown((replaced(FIRST, 1, 4), SECOND, THIRD), 4), False)
        self.assertIs(shown((FIRST, replaced(SECOND, 1, 2), THIRD)), True)
        self.assertIs(shown((FIRST, replaced(SECOND, 1, 3), THIRD)), False)

    def test_a_cheaper_line(self):
        cheaper = (replaced(replaced(FIRST, 1, 2), 4, NONE),)
        self.assertIs(shown(cheaper, 2), True)
        self.assertIs(shown(cheaper, 3), False)
        self.assertIs(shown((replaced(FIRST, 1, 2), SECOND, THIRD), 2), False)
        self.assertIs(shown((FIRST, replaced(SECOND, 1, 0), THIRD)), False)

    def test_none_where_an_answer_is_wanted_and_the_other_way_round(self):
        for pairs in (
            ((("a",), None), (("a", "b"), None), (("b",), (YES,))), ((("a",), (YES,)), (("a", "b"), None),
                (("b",), None)),
            ((("a",), (YES,)), (("a", "b"), (YES, YES)), (("b",), (YES,))),
        ):
            self.assertIs(shown((replaced(FIRST, 4, pairs), SECOND, THIRD)), False)

    def test_sets_of_sources(self):
        a, both, b = FIRST[4]
        for pairs in (
            (a, both), (both, b), (a, b), (), (a, b, both), (both, a, b), (b, both, a), (a, a, both, b),
            (a, both, both, b),
            (a, (("b", "a"), None), b), (a, (["a", "b"], None), b), (a, ("ab", None), b), ((("c",), (YES,)), both, b),
            ((), a, both, b), (((), None), a, both, b), [a, both, b], (list(a), both, b), (("a", (YES,)), both, b),
            None,
            (a, both, b, None), ((*a, None), both, b), (a[:1], both, b), 3, "", ((None, None), both, b),
        ):
            with self.subTest(pairs):
                self.assertIs(shown((replaced(FIRST, 4, pairs), SECOND, THIRD)), False)

    def test_answers(self):
        a, both, b = FIRST[4]
        for answers in ((NO,), ((1,),), (True,), YES, ([True],), [YES], (YES, YES), (), ((True, True),), ((None,),),
                        (None,), 0):
            self.assertIs(shown((replaced(FIRST, 4, ((("a",), answers), both, b)), SECOND, THIRD)), False)

    def test_answers_whose_standing_has_a_line(self):
        other = ((("a.x", False, 0),), 1, NAY, (NO, YES), NONE)
        a, both, b = FIRST[4]
        lines = (replaced(FIRST, 4, ((("a",), (NO,)), both, b)), other, THIRD)
        self.assertIs(shown(lines), False)

    def test_worlds(self):
        for one, other in (
            (YEA, YEA), (NAY, NAY), (NAY, (NO, YES)), (YEA, (1, 0)), (YEA, ((1,), (0,))), (YEA, ((0,), (False,))),
            ((True, True), NAY), (YEA, None), (YEA, (NO,)), (YEA, [NO, NO]), (None, None), (YEA, (NO, NO, NO)),
            ("a", "b"),
        ):
            with self.subTest((one, other)):
                self.assertIs(shown((replaced(replaced(FIRST, 2, one), 3, other), SECOND, THIRD)), False)
                self.assertIs(shown((replaced(replaced(FIRST, 2, other), 3, one), SECOND, THIRD)), False)
        self.assertIs(shown((replaced(replaced(FIRST, 2, NAY), 3, YEA), SECOND, THIRD)), True)
        self.assertIs(shown((replaced(FIRST, 3, (NO, YES)), SECOND, THIRD)), True)

    def test_worlds_that_do_not_agree(self):
        self.assertIs(shown((FIRST, replaced(SECOND, 3, (NO, NO)), THIRD)), False)
        self.assertIs(shown((FIRST, replaced(SECOND, 2, (NO, NO)), THIRD)), False)
        self.assertIs(shown((FIRST, SECOND, replaced(THIRD, 3, (NO, NO)))), False)

    def test_true_in_the_place_of_1(self):
        self.assertIs(shown((FIRST, replaced(SECOND, 1, True), THIRD)), False)
        self.assertIs(shown((FIRST, replaced(SECOND, 0, (("a.x", 1, 0),)), THIRD)), False)
        self.assertIs(shown((FIRST, replaced(SECOND, 0, (("a.x", True, False),)), THIRD)), False)

    def test_lines_of_standings(self):
        for lines in (
            [("a.x", True, 0)], (["a.x", True, 0],), (("a.x", True),), (("a.x", True, 0), ("a.x", True, 0)),
            (("a.x", True, 4),),
            (("a.y", True, 0),), (("a", True, 0),), (("a.x", "yes", 0),), "a.x", None, (("a.x", True, -1),), Known(),
        ):
            with self.subTest(lines):
                self.assertIs(shown((FIRST, SECOND, THIRD, replaced(SECOND, 0, lines))), False)
        program = Program(BOTH.replace("a.x and b.x", "b.x"))
        known = Known((("a.x", True, 1), ("b.x", True, 0)))
        self.assertIs(shown((), 0, program, known), True)

    def test_lines_of_a_standing_ascend(self):
        program = Program("round 1\nsource a price 1\n  x yes\n  y yes\n  z yes\ndecide go if a.z\notherwise halt")
        lines = (("a.x", True, 0), ("a.y", True, None))
        one, other = ((True, True, True),), ((True, True, False),)
        value = ((lines, 2, one, other, ((("a",), None),)),)
        known = Known(lines)
        self.assertIs(shown(value, 2, program, known), True)
        self.assertIs(shown((*value, replaced(value[0], 0, lines[::-1])), 2, program, known), False)
        self.assertIs(shown((replaced(value[0], 0, lines[::-1]),), 2, program, known), False)

    def test_any_value(self):
        for value in any_values():
            self.assertIs(shown(value), False)
            self.assertIs(shown((value,)), False)
            self.assertIs(shown((FIRST, SECOND, THIRD, value)), False)
            self.assertIs(shown(value, 0), same(value, ()))
            for at in range(5):
                # The lines of no facts, and the price 1 that stands there, are right.
                right = same(value, ()) if at == 0 else same(value, 1) and at == 1
                self.assertIs(shown((FIRST, SECOND, THIRD, replaced(SECOND, at, value))), right)
        self.assertIs(shown([FIRST, SECOND, THIRD]), False)
        self.assertIs(shown((list(FIRST), SECOND, THIRD)), False)
        self.assertIs(shown((FIRST[:4], SECOND, THIRD)), False)
        self.assertIs(shown(((*FIRST, None), SECOND, THIRD)), False)


class ErrorsTest(unittest.TestCase):
    def test_bad_fact_then_impossible(self):
        known = Known((("work", False, None), ("work.income", 3, None), ("person.agee", 1, None),
                       ("person.age", True, 0)))
        for call in (lambda: answerer(LOAN_PROGRAM, known), lambda: shows_answerer(LOAN_PROGRAM, known, 0, ()),
                     lambda: shows_answerer(LOAN_PROGRAM, known, -5, None)):
            self.assertEqual(raised(BadFact, call), "person.age")
        known = Known((("work", False, None), ("work.income", 3, None), ("person.age", 20, 0)))
        for call in (lambda: answerer(LOAN_PROGRAM, known), lambda: shows_answerer(LOAN_PROGRAM, known, 0, ()),
                     lambda: shows_answerer(LOAN_PROGRAM, known, 0, []),
                     lambda: shows_answerer(LOAN_PROGRAM, known, 7, [[]])):
            found = raised(Impossible, call)
            self.assertEqual(found, conflict(LOAN_PROGRAM, known.facts))
            self.assertEqual(found, Facts((("work", False), ("work.income", 3))))

    def test_a_settled_standing(self):
        known = Known((("a.x", False, 0),))
        self.assertEqual(answerer(BOTH_PROGRAM, known), ())
        self.assertIs(shown((), 0, known=known), True)
        self.assertIs(shown((), 1, known=known), False)
        line = (known.lines, 1, (NO, YES), NAY, NONE)
        self.assertIs(shown((line,), 1, known=known), False)


class WholeForEverTest(unittest.TestCase):
    TEXT = ("round 1\nsource a price 1 maybe\n  x yes\n  y yes\nsource b price 1 stay 3\n  x yes\n"
            "source c price 1\n  x yes\n"
            "decide go if points(1 a.x, 1 b.x, 1 c.x) > 1\notherwise halt")

    def sets(self, *lines):
        return sets_to_answer(Program(self.TEXT), Known(lines))

    def test_all_sets(self):
        every = [("a",), ("a", "b"), ("a", "b", "c"), ("a", "c"), ("b",), ("b", "c"), ("c",)]
        self.assertEqual(self.sets(), every)
        for lines in (
            [("c.x", True, 3)], [("a", True, None)], [("a.x", True, None)], [("a.x", True, None), ("a.y", True, 3)],
            [("a", True, 2), ("a.x", True, None), ("a.y", True, None)], [("a", False, 0)], [("b.x", True, 3)],
            [("a", True, None), ("a.x", True, None)],
        ):
            self.assertEqual(self.sets(*lines), every)

    def test_sets_of_whole_sources(self):
        for lines in (
            [("a", False, None)], [("a.x", True, None), ("a.y", False, None)],
            [("a", True, None), ("a.x", True, None), ("a.y", False, None)],
        ):
            self.assertEqual(self.sets(*lines), [("a", "b"), ("a", "b", "c"), ("a", "c"), ("b",), ("b", "c"), ("c",)])
            self.assertEqual(self.sets(*lines, ("c.x", True, None)), [("a", "b"), ("a", "b", "c"), ("b",), ("b", "c")])
        self.assertEqual(self.sets(("a", False, None), ("b.x", True, None), ("c.x", True, None)), [])

    def test_they_are_left_out_and_nothing_else(self):
        program = Program(self.TEXT)
        known = Known((("a.x", True, None), ("a.y", True, None), ("c.x", False, None)))
        value = answerer(program, known)
        self.assertEqual([pair[0] for pair in value[0][4]], [("a", "b"), ("a", "b", "c"), ("b",), ("b", "c")])
        self.assertIs(shown(value, 2, program, known), True)
        more = replaced(value[0], 4, ((("a",), None), *value[0][4]))
        self.assertIs(shown((more,), 2, program, known), False)
        known = Known((("a.x", True, None), ("a.y", True, 3), ("c.x", False, None)))
        self.assertIs(shown((replaced(value[0], 0, known.lines),), 2, program, known), False)
        self.assertIs(shown(answerer(program, known), 2, program, known), True)


class AgainstTheWordsTest(unittest.TestCase):
    def check(self, program, known, rows=False):
        words = ByTheWords(program, rows)
        least = plan(program, known, rows=rows).price
        value = answerer(program, known, rows=rows)
        self.assertEqual(value == (), least == 0)
        self.assertTrue(words.shows(known, least, value))
        self.assertIs(shows_answerer(program, known, least, value, rows=rows), True)
        for price in (least - 1, least + 1):
            self.assertIs(shows_answerer(program, known, price, value, rows=rows), price < 0 and value == ())
        return value

    def test_pointer(self):
        """The least price is 8: s alone is not good enough, nor is one of u and v."""
        value = self.check(POINTER_PROGRAM, Known())
        self.assertEqual(value[0][1], 8)
        self.check(POINTER_PROGRAM, Known(), rows=True)
        for stay in (0, 1):
            self.check(Program(POINTER.replace("s price 1", f"s price 1 stay {stay}")), Known())

    def test_loan(self):
        self.check(LOAN_PROGRAM, Known())
        self.check(LOAN_PROGRAM, Known(), rows=True)
        self.check(LOAN_PROGRAM, Known((("person.age", 45, 1), ("work.income", 9, 0))))

    def test_told_values_stand_in_the_place_of_marks(self):
        program = Program("round 1\nsource a price 1 stay 1\n  n 0..9\n  m 0..9\nsource b price 1\n  x yes\n"
                          "decide go if a.n > 4 and a.m > 4 and b.x\notherwise halt")
        known = Known((("a.n", 7, 3),))
        value = self.check(program, known)
        self.assertIn((("a",), ((7, 5),)), value[0][4])
        wrong = tuple(pair if pair[0] != ("a",) else (("a",), ((5, 5),)) for pair in value[0][4])
        self.assertIs(shown((replaced(value[0], 4, wrong), *value[1:]), value[0][1], program, known), False)

    def test_drawn_programs(self):
        draw = random.Random(11)
        for _ in range(120):
            program = drawing.program(draw, 1, 3)
            worlds = drawing.all_worlds(program)
            for _ in range(4):
                self.check(program, drawing.known_of(draw, program, draw.choice(worlds), draw.random()),
                           draw.random() < 0.3)

    def test_four_and_five_sources(self):
        draw = random.Random(12)
        for _ in range(8):
            program = drawing.program(draw, 4, 5, most_fields=1)
            value = self.check(program, Known())
            self.assertLess(len(value), 2000)

    def test_each_price_up_to_the_least_one_can_be_shown(self):
        draw = random.Random(13)
        for _ in range(60):
            program = drawing.program(draw, 1, 3)
            prices = Prices(program, False)
            for price in range(1, prices.least(Known()) + 1):
                value = lines_for(prices, Known(), price)
                self.assertIs(shows_answerer(program, Known(), price, value), True)
                self.assertTrue(ByTheWords(program).shows(Known(), price, value))

    def test_changed_answerers(self):
        """A changed one is one if and only if the words say so."""
        draw = random.Random(14)
        seen = {True: 0, False: 0}
        for _ in range(150):
            program = drawing.program(draw, 2, 3)
            words = ByTheWords(program)
            known = drawing.known_of(draw, program, draw.choice(drawing.all_worlds(program)), 0.3)
            value = answerer(program, known)
            for _ in range(8 if value else 0):
                other = self.changed(draw, program, value)
                expected = words.shows(known, value[0][1], other)
                self.assertIs(shows_answerer(program, known, value[0][1], other), expected)
                seen[expected] += 1
        self.assertGreater(min(seen.values()), 100)

    def changed(self, draw, program, value):
        """An answerer with one thing changed."""
        at = draw.randrange(len(value))
        line = value[at]
        kind = draw.randrange(8)
        if kind == 0:
            return value[:at] + value[at + 1:]
        if kind == 1:
            return replaced(value, at, value[draw.randrange(len(value))])
        if kind == 2:
            other = draw.randrange(len(value))
            return replaced(replaced(value, at, value[other]), other, line)
        if kind == 3:
            return replaced(value, at, replaced(line, 1, line[1] + draw.choice((-1, 1))))
        if kind == 4:
            return replaced(value, at, replaced(line, draw.choice((2, 3)), draw.choice(drawing.all_worlds(program))))
        if kind == 5:
            lines = Known(line[0]).later().lines
            return replaced(value, at, replaced(line, 0, lines))
        pair = draw.randrange(len(line[4]))
        if kind == 6:
            return replaced(value, at, replaced(line, 4, line[4][:pair] + line[4][pair + 1:]))
        sources = line[4][pair][0]
        parts = [part for part in program.parts if part.name in sources]
        answers = tuple(draw.choice(drawing.answers_of(part)) for part in sorted(parts, key=lambda part: part.name))
        return replaced(value, at, replaced(line, 4, replaced(line[4], pair, (sources, answers))))


if __name__ == "__main__":
    unittest.main()
