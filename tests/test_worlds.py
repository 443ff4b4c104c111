import random
import unittest

from onlyasked import worlds
from onlyasked.errors import BadProgram, BadWorld, TooLarge
from onlyasked.programs import Program
from onlyasked.worlds import evaluate, is_world
from samples import FIVE, LOAN, any_values, raised, with_rows

FIELDS = "round 0\nsource a price 1 maybe\n  n -5..9\n  w lo mid hi\n  b yes\nsource s price 1\n  x yes\n"
BARE = Program("round 0\nsource a price 1\n  n -5..9\n  w lo mid hi\n  b yes\nsource m price 1 maybe\n  x yes\notherwise go")


class NamesTest(unittest.TestCase):
    def test_they_are_defined_here(self):
        for name in ("is_world", "evaluate"):
            self.assertEqual(getattr(worlds, name).__module__, "onlyasked.worlds")

    def test_arguments_by_name(self):
        program = Program(FIVE)
        self.assertIs(is_world(value=(None,), program=program), True)
        self.assertEqual(evaluate(world=(None,), program=program), ("go", 0))


class EvaluateTest(unittest.TestCase):
    def holds(self, written, world):
        """Whether an expression holds in a world of the program with sources a (n, w, b; maybe) and s (x)."""
        program = Program(f"{FIELDS}decide go if {written}\notherwise halt")
        return evaluate(program, world) == ("go", 0)

    def expect(self, world, holding, failing):
        for written in holding:
            with self.subTest(written):
                self.assertTrue(self.holds(written, world))
                self.assertFalse(self.holds(f"not({written})", world))
                self.assertTrue(self.holds(f"not not({written})", world))
        for written in failing:
            with self.subTest(written):
                self.assertFalse(self.holds(written, world))
                self.assertTrue(self.holds(f"not({written})", world))

    def test_example(self):
        program = Program(FIVE)
        self.assertEqual([evaluate(program, (None,)), evaluate(program, ((7,),))], [("go", 0), ("halt", 1)])

    def test_loan(self):
        loan = Program(LOAN)
        for person, work, market, told in (
            ((17, "inside"), None, True, ("refuse", 0)),
            ((13, "inside"), None, True, ("refuse", 0)),
            ((17, "inside"), (9999, True), True, ("refuse", 0)),
            ((18, "inside"), (3000, False), True, ("grant", 1)),
            ((18, "inside"), (3000, False), False, ("look", 2)),
            ((18, "outside"), (3000, False), True, ("look", 2)),
            ((18, "outside"), (3000, True), True, ("grant", 1)),
            ((18, "inside"), (2999, True), True, ("look", 2)),
            ((120, "inside"), (9999, True), True, ("grant", 1)),
            ((120, "inside"), None, True, ("look", 2)),
            ((18, "outside"), None, False, ("look", 2)),
        ):
            with self.subTest((person, work, market)):
                self.assertEqual(evaluate(loan, (person, work, (market,))), told)

    def test_the_first_decide_line_that_holds(self):
        program = Program(with_rows("decide one if a.n > 7", "decide two if a.n > 5", "decide one if a.n > 3"))
        told = [evaluate(program, ((number, "lo", True), None)) for number in (9, 8, 7, 6, 5, 4, 3, -5)]
        one, two, three, rest = ("one", 0), ("two", 1), ("one", 2), ("halt", 3)
        self.assertEqual(told, [one, one, two, two, three, three, rest, rest])

    def test_only_otherwise(self):
        self.assertEqual(evaluate(BARE, ((0, "lo", True), None)), ("go", 0))

    def test_rows_with_the_outcome_of_the_last_row(self):
        program = Program(with_rows("decide halt if a.b", "decide halt if true"))
        self.assertEqual(evaluate(program, ((0, "lo", True), None)), ("halt", 0))
        self.assertEqual(evaluate(program, ((0, "lo", False), None)), ("halt", 1))

    def test_an_answer_that_is_there(self):
        self.expect(
            ((5, "mid", False), (True,)),
            ["true", "(true)", "there a", "s.x", "a.n = 5", "a.n < 6", "a.n > 4", "a.n > -5", "a.n < 1000000",
             "a.w = mid", "a.w in (mid)", "a.w in (lo, mid)", "a.w in (mid, mid)", "not a.b"],
            ["false", "not there a", "a.b", "a.n = 4", "a.n = -5", "a.n = 500", "a.n < 5", "a.n > 5", "a.n < -1000000",
             "a.w = lo", "a.w in (lo, hi)", "a.w in (hi)", "not s.x"],
        )

    def test_integers_below_zero(self):
        self.expect(((-5, "lo", True), (False,)), ["a.n = -5", "a.n < -4", "a.n > -6", "a.b"], ["a.n < -5", "a.n = 5"])

    def test_what_names_a_field_that_is_not_there_does_not_hold(self):
        self.expect(
            (None, (True,)),
            ["not there a", "not a.b", "not a.n = 5", "not a.n < 5", "not a.n > -5", "not a.w = lo",
             "not a.w in (lo, mid, hi)", "not a.n < 5 and not a.n = 5 and not a.n > 5", "not not s.x"],
            ["there a", "a.b", "a.n = 5", "a.n < 1000000", "a.n > -1000000", "a.w = lo", "a.w in (lo, mid, hi)",
             "a.b or there a", "not not a.b"],
        )

    def test_or_and_and_not(self):
        self.expect(
            ((5, "mid", False), (True,)),
            ["true or true and false", "false and false or true", "not false and true", "not true or true",
             "not(true and false)", "true and true and true", "false or false or true", "(true or true) and true",
             "not a.n = 4 and s.x", "true or false or false"],
            ["(true or true) and false", "false and (false or true)", "not (false or true)", "not true and false",
             "true and true and false", "false or false", "not not false", "false and true and true"],
        )

    def test_points(self):
        self.expect(
            ((5, "mid", False), (True,)),
            ["points(2 s.x, 1 a.n = 5) > 2", "points(2 s.x, 1 a.n = 5) = 3", "points(2 s.x, 1 a.n = 5) < 4",
             "points(2 a.b, 1 a.n = 5) = 1", "points(-9 s.x) = -9", "points(-9 s.x, 9 s.x, 0 s.x) = 0",
             "points(9 a.b) = 0", "points(1 a.b or s.x, 1 not a.b and s.x) = 2", "points(1 s.x, 1 s.x) = 2",
             "points(3 points(1 s.x) = 1, -1 points(1 a.b) < 1) = 2", "points(1 s.x) > -1000000"],
            ["points(2 s.x, 1 a.n = 5) > 3", "points(2 s.x, 1 a.n = 5) < 3", "points(2 s.x, 1 a.n = 5) = 2",
             "points(1 a.b, 1 false) > 0", "points(1 s.x) = 1000000"],
        )
        self.expect((None, (False,)), ["points(1 a.b, 1 a.n < 9, 1 a.w = lo) = 0"], ["points(1 not a.b) = 0"])

    def test_rules(self):
        program = Program(with_rows("rule top left and not right", "rule left a.n > 5 or low", "rule right m.x",
                                    "rule low a.w = lo", "decide go if top", "decide stop if not left"))
        for world, told in (
            (((6, "hi", True), None), ("go", 0)),
            (((5, "lo", True), (False,)), ("go", 0)),
            (((5, "lo", True), (True,)), ("halt", 2)),
            (((5, "hi", True), (True,)), ("stop", 1)),
        ):
            with self.subTest(world):
                self.assertEqual(evaluate(program, world), told)

    def test_bad_world_with_the_value_itself(self):
        program = Program(FIVE)
        for value in [*any_values(), ((10,),), ([7],), [(7,)], ((True,),), ((7,), None), ((7, 7),)]:
            with self.subTest(value):
                self.assertIs(raised(BadWorld, evaluate, program, value), value)


class RandomExpressionsTest(unittest.TestCase):
    """Expressions against what Python itself says of them."""

    signs = {"<": int.__lt__, ">": int.__gt__, "=": int.__eq__}

    def leaf(self, dice, world):
        """A random expression without one within it, and whether it holds in the world."""
        answer, (x,) = world
        number, word, yes = answer or (None, None, None)
        sign, other = dice.choice("<>="), dice.randint(-6, 10)
        words = [dice.choice(("lo", "mid", "hi")) for _ in range(dice.randint(1, 3))]
        return dice.choice((
            ("true", True), ("false", False), ("s.x", x), ("there a", answer is not None), ("a.b", yes is True),
            (f"a.n{sign}{other}", answer is not None and self.signs[sign](number, other)),
            (f"a.w = {words[0]}", word == words[0]), (f"a.w in ({', '.join(words)})", word in words),
        ))

    def points(self, dice, world, depth):
        """Random points, and whether they hold in the world."""
        sign, reach, total, items = dice.choice("<>="), dice.randint(-4, 4), 0, []
        for _ in range(dice.randint(1, 4)):
            many = dice.randint(-9, 9)
            text, holding, _ = self.tree(dice, world, depth - 1)
            items.append(f"{many} {text}")
            total += many * holding
        return f"points({', '.join(items)}) {sign} {reach}", self.signs[sign](total, reach), 3

    def tree(self, dice, world, depth):
        """A random expression, whether it holds in the world, and how tight it is (0: or, 3: in itself)."""
        form = dice.choice(("or", "and", "not", "points", "leaf")) if depth else "leaf"
        if form == "leaf":
            return (*self.leaf(dice, world), 3)
        if form == "points":
            return self.points(dice, world, depth)
        if form == "not":
            text, holding, tight = self.tree(dice, world, depth - 1)
            return (f"not {text}" if tight > 1 else f"not ({text})"), not holding, 2
        own = ("or", "and").index(form)
        parts = [self.tree(dice, world, depth - 1) for _ in range(dice.randint(2, 3))]
        texts = [text if tight > own else f"({text})" for text, _, tight in parts]
        results = [holding for _, holding, _ in parts]
        return f" {form} ".join(texts), any(results) if form == "or" else all(results), own

    def test_random_expressions(self):
        dice = random.Random(7)
        compared = 0
        for _ in range(1500):
            there = (dice.randint(-5, 9), dice.choice(("lo", "mid", "hi")), dice.choice((False, True)))
            world = (dice.choice((None, there, there)), (dice.choice((False, True)),))
            text, holding, _ = self.tree(dice, world, dice.randint(0, 3))
            rule = dice.choice(("decide go if {}", "rule r {}\ndecide go if r", "rule r t\nrule t {}\ndecide go if r"))
            try:
                program = Program(f"{FIELDS}{rule.format(text)}\notherwise halt")
            except (BadProgram, TooLarge):
                # Some have more than 300 tokens, or too many marks.
                continue
            compared += 1
            with self.subTest(text):
                self.assertEqual(evaluate(program, world), ("go", 0) if holding else ("halt", 1))
        self.assertGreater(compared, 1300)


class IsWorldTest(unittest.TestCase):
    def test_values_that_are_no_tuple_of_answers(self):
        for value in any_values():
            for program in (BARE, Program(LOAN), Program(FIVE)):
                with self.subTest(value):
                    self.assertIs(is_world(program, value), False)

    def check(self, program, good, bad):
        for value in good:
            with self.subTest(value):
                self.assertIs(is_world(program, value), True)
                evaluate(program, value)
        for value in bad:
            with self.subTest(value):
                self.assertIs(is_world(program, value), False)
                self.assertIs(raised(BadWorld, evaluate, program, value), value)

    def test_answers(self):
        right = (0, "lo", True)
        self.check(
            BARE,
            [(right, None), (right, (True,)), (right, (False,)), ((-5, "hi", False), None), ((9, "mid", False), None)],
            [[right, None], (list(right), None), (right, [True]), (right,), (right, None, None), (None, None), (None, right),
             (right, ()), ((), None), ((0, "lo"), None), ((0, "lo", True, True), None), (right, (True, True)),
             ("lo", 0, True, None), (right, ((True,),)), (right, True), (right, False), ({0: 0}, None)],
        )

    def test_values(self):
        wrong = [
            (10, "lo", True), (-6, "lo", True), (10 ** 30, "lo", True), (True, "lo", True), (False, "lo", True),
            ("0", "lo", True), (None, "lo", True), ((0,), "lo", True), ([0], "lo", True), ({}, "lo", True),
            (0, "low", True), (0, "", True), (0, 0, True), (0, None, True), (0, True, True), (0, ("lo",), True),
            (0, ["lo"], True), (0, "l", True), (0, "LO", True), (0, {}, True), (0, "yes", True),
            (0, "lo", 1), (0, "lo", 0), (0, "lo", "yes"), (0, "lo", None), (0, "lo", (True,)), (0, "lo", [True]),
        ]
        self.check(BARE, [], [(answer, None) for answer in wrong])

    def test_values_of_a_maybe_source(self):
        right = (0, "lo", True)
        self.check(BARE, [], [(right, (one,)) for one in (None, 1, 0, "yes", (), [True])])

    def test_givens(self):
        loan = Program(LOAN)
        self.check(
            loan,
            [((13, "inside"), None, (True,)), ((14, "inside"), (0, False), (True,)), ((0, "outside"), None, (False,)),
             ((14, "inside"), None, (True,))],
            [((13, "inside"), (0, False), (True,)), ((0, "outside"), (9999, True), (False,)),
             ((121, "inside"), None, (True,)), ((14, "inside"), (10000, True), (True,)),
             ((14, "inside"), None, None), (None, None, (True,))],
        )

    def test_all_givens_must_hold_also_by_rules(self):
        program = Program(with_rows("given a.n > 0", "given low or m.x", "rule low a.w = lo"))
        self.check(
            program,
            [((1, "lo", True), None), ((1, "hi", True), (True,))],
            [((0, "lo", True), None), ((1, "hi", True), None), ((1, "hi", True), (False,)), ((0, "hi", True), (True,))],
        )


if __name__ == "__main__":
    unittest.main()
