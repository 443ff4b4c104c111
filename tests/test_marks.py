import inspect
import unittest
from itertools import product

from onlyasked import marks as module
from onlyasked.errors import BadFact, NoName
from onlyasked.marks import mark_of, marks, worlds
from onlyasked.programs import Program
from onlyasked.worlds import evaluate, is_world
from samples import HEAD, LOAN, SIX, any_values, raised, same, with_rows


class NamesTest(unittest.TestCase):
    def test_they_are_defined_here(self):
        for name in ("marks", "mark_of", "worlds"):
            self.assertEqual(getattr(module, name).__module__, "onlyasked.marks")

    def test_arguments_by_name(self):
        program = Program(SIX)
        self.assertEqual(marks(name="a.n", program=program), (0, 5))
        self.assertEqual(mark_of(value=7, name="a.n", program=program), 5)
        self.assertEqual(list(worlds(program=program))[0], ((0, "lo"),))


class MarksTest(unittest.TestCase):
    def numbers(self, *rows):
        return marks(Program(with_rows(*rows)), "a.n")

    def test_example(self):
        program = Program(SIX)
        told = [marks(program, "a.n"), marks(program, "a.w"), mark_of(program, "a.n", 7), mark_of(program, "a.w", "hi")]
        self.assertEqual(told, [(0, 5), ("lo", "mid"), 5, "lo"])

    def test_loan(self):
        loan = Program(LOAN)
        told = [marks(loan, name) for name in ("person.age", "person.home", "work.income", "work.fixed", "market.open")]
        self.assertTrue(same(told, [(0, 14, 18), ("inside", "outside"), (0, 3000), (False, True), (False, True)]))

    def test_loan_with_one_income_alone(self):
        loan = Program(LOAN.replace("work.income > 2999", "work.income = 5"))
        self.assertEqual(marks(loan, "work.income"), (0, 5))
        self.assertEqual([mark_of(loan, "work.income", value) for value in (0, 4, 5, 6, 9999)], [0, 0, 5, 0, 0])

    def test_each_sign(self):
        self.assertEqual(self.numbers("decide go if a.n = 3"), (-5, 3))
        self.assertEqual(self.numbers("decide go if a.n < 3"), (-5, 3))
        self.assertEqual(self.numbers("decide go if a.n > 3"), (-5, 4))
        self.assertEqual(self.numbers("decide go if a.n > 3 or a.n < 3"), (-5, 3, 4))
        self.assertEqual(self.numbers("decide go if a.n = -2 or a.n = 3"), (-5, -2, 3))
        self.assertEqual(self.numbers("decide go if a.n = 3 or a.n > 3"), (-5, 3, 4))

    def test_at_the_bounds(self):
        self.assertEqual(self.numbers("decide go if a.n = -5"), (-5, -4))
        self.assertEqual(self.numbers("decide go if a.n = 9"), (-5, 9))
        self.assertEqual(self.numbers("decide go if a.n < -5"), (-5,))
        self.assertEqual(self.numbers("decide go if a.n > 9"), (-5,))
        self.assertEqual(self.numbers("decide go if a.n < -4"), (-5, -4))
        self.assertEqual(self.numbers("decide go if a.n > 8"), (-5, 9))
        self.assertEqual(self.numbers("decide go if a.n > -6"), (-5,))
        self.assertEqual(self.numbers("decide go if a.n < 10"), (-5,))

    def test_beyond_the_bounds(self):
        for written in ("= -6", "= 10", "= 1000000", "< -1000000", "> 1000000", "< 100", "> -100"):
            self.assertEqual(self.numbers(f"decide go if a.n {written}"), (-5,))

    def test_a_field_of_one_value(self):
        program = Program("round 0\nsource a price 1\n  n 3..3\ndecide go if a.n = 3\notherwise halt")
        self.assertEqual(marks(program, "a.n"), (3,))

    def test_a_field_that_no_place_names_has_one_mark(self):
        program = Program(with_rows("decide go if true", "decide halt if there m"))
        told = [marks(program, name) for name in ("a.n", "a.w", "a.b", "m.x")]
        self.assertTrue(same(told, [(-5,), ("lo",), (False,), (False,)]))

    def test_places_of_another_field_do_not_count(self):
        text = "round 0\nsource a price 1\n  n 0..9\n  o 0..9\nsource b price 1\n  n 0..9\ndecide go if a.n > 4\notherwise halt"
        program = Program(text)
        self.assertEqual([marks(program, name) for name in ("a.n", "a.o", "b.n")], [(0, 5), (0,), (0,)])

    def test_places_anywhere_count(self):
        for row in ("given a.n > 4 or true", "rule r a.n > 4", "rule r false and a.n > 4", "decide go if not not a.n > 4",
                    "decide go if points(0 (true or a.n > 4)) > 5", "rule r points(1 true, 1 a.n > 4) > 1",
                    "decide go if not(true or not(false and a.n > 4))"):
            with self.subTest(row):
                self.assertEqual(self.numbers(row), (-5, 5))

    def test_a_place_that_is_named_twice(self):
        self.assertEqual(self.numbers("rule r a.n > 4 and a.n > 4", "rule s a.n > 4"), (-5, 5))

    def test_words(self):
        for written, told in (
            ("a.w = lo", ("lo", "mid")), ("a.w = mid", ("lo", "mid")), ("a.w = hi", ("lo", "hi")),
            ("a.w in (lo, mid)", ("lo", "hi")), ("a.w in (hi, mid)", ("lo", "mid")), ("a.w in (hi, lo)", ("lo", "mid")),
            ("a.w in (hi, lo, mid)", ("lo",)), ("a.w in (mid, mid)", ("lo", "mid")),
            ("a.w = lo or a.w = hi", ("lo", "mid", "hi")), ("a.w in (lo, mid) or a.w in (mid, hi)", ("lo", "mid", "hi")),
        ):
            with self.subTest(written):
                self.assertEqual(marks(Program(with_rows(f"decide go if {written}")), "a.w"), told)

    def test_words_stand_in_the_sequence_of_the_line(self):
        program = Program("round 0\nsource a price 1\n  w zeta alpha mid\nrule r a.w = zeta or a.w = mid\notherwise go")
        self.assertEqual(marks(program, "a.w"), ("zeta", "alpha", "mid"))

    def test_bools(self):
        program = Program(with_rows("decide go if a.b"))
        self.assertTrue(same(marks(program, "a.b"), (False, True)))
        self.assertTrue(same(marks(program, "m.x"), (False,)))

    def test_classes_by_their_definition(self):
        """Against all results of all places, for each value of small fields."""
        signs = {"<": lambda x, y: x < y, ">": lambda x, y: x > y, "=": lambda x, y: x == y}
        for one, other in product(product(signs, (-7, -5, -4, 2, 3, 9, 10)), repeat=2):
            program = Program(with_rows(f"given true or a.n {other[0]}{other[1]}", f"rule r a.n {one[0]} {one[1]}"))
            least = {}
            for value in range(-5, 10):
                results = (signs[one[0]](value, one[1]), signs[other[0]](value, other[1]))
                least.setdefault(results, value)
                self.assertEqual(mark_of(program, "a.n", value), least[results])
            self.assertEqual(marks(program, "a.n"), tuple(sorted(least.values())))

    def test_no_name(self):
        program = Program(LOAN)
        for value in [*any_values(), "work", "person", "age", "adult", "person.", "person.income", ["person.age"],
                      ("person.age",), {"person.age": 1}, "work.there", "person.age ", ("person", "age")]:
            with self.subTest(value):
                self.assertIs(raised(NoName, marks, program, value), value)
                self.assertIs(raised(NoName, mark_of, program, value, 5), value)
                self.assertIs(raised(NoName, mark_of, program, value, []), value)


class MarkOfTest(unittest.TestCase):
    def test_integers_words_and_bools(self):
        program = Program(with_rows("rule r a.n > 3", "rule s a.w in (mid, hi)", "rule t a.b"))
        told = [mark_of(program, "a.n", value) for value in (-5, 3, 4, 9)]
        self.assertEqual(told, [-5, -5, 4, 4])
        self.assertEqual([mark_of(program, "a.w", value) for value in ("lo", "mid", "hi")], ["lo", "mid", "mid"])
        self.assertTrue(same([mark_of(program, "a.b", value) for value in (False, True)], [False, True]))
        self.assertTrue(same([mark_of(program, "m.x", value) for value in (False, True)], [False, False]))

    def test_each_mark_is_its_own(self):
        loan = Program(LOAN)
        for name in ("person.age", "person.home", "work.income", "work.fixed", "market.open"):
            for mark in marks(loan, name):
                self.assertTrue(same(mark_of(loan, name, mark), mark))

    def test_bad_fact(self):
        program = Program(with_rows("rule r a.n > 3", "rule s a.w in (mid, hi)", "rule t a.b"))
        others = [value for value in any_values() if value not in (0, 1, -1)]
        for name, more in (
            ("a.n", [True, False, -6, 10, "5", None, (5,), [5], 10 ** 30]),
            ("a.w", [0, True, "low", "", None, ("lo",), ["lo"], {"lo": 1}, "LO", "a.w"]),
            ("a.b", [0, 1, "yes", "True", None, (True,), [True]]),
            ("m.x", [0, 1, None]),
        ):
            for value in [*others, *more]:
                with self.subTest((name, value)):
                    self.assertEqual(raised(BadFact, mark_of, program, name, value), name)


class WorldsTest(unittest.TestCase):
    def test_it_is_a_generator(self):
        found = worlds(Program(SIX))
        self.assertTrue(inspect.isgenerator(found))
        self.assertEqual(next(found), ((0, "lo"),))
        self.assertEqual(list(found), [((0, "mid"),), ((5, "lo"),), ((5, "mid"),)])
        self.assertEqual(list(found), [])

    def test_none_comes_first_and_the_last_field_changes_first(self):
        program = Program(with_rows("rule r a.n > 4 and a.w = mid and m.x"))
        answers = [(-5, "lo", False), (-5, "mid", False), (5, "lo", False), (5, "mid", False)]
        told = [(answer, other) for answer in answers for other in (None, (False,), (True,))]
        self.assertTrue(same(list(worlds(program)), told))

    def test_a_maybe_source_ahead_of_another_one(self):
        program = Program("round 0\nsource a price 1 maybe\n  x yes\n  y yes\nsource b price 1\n  z yes\n"
                          "decide go if a.x and a.y and b.z\notherwise halt")
        yes_no = (False, True)
        told = [(answer, (z,)) for answer in (None, *product(yes_no, repeat=2)) for z in yes_no]
        self.assertTrue(same(list(worlds(program)), told))

    def test_the_sequence_of_sources_and_words_is_that_of_the_lines(self):
        program = Program("round 0\nsource z price 1\n  w zeta alpha\nsource a price 1\n  n 0..9\n"
                          "rule r z.w = zeta and a.n > 4\notherwise go")
        told = [(("zeta",), (0,)), (("zeta",), (5,)), (("alpha",), (0,)), (("alpha",), (5,))]
        self.assertEqual(list(worlds(program)), told)

    def test_loan(self):
        loan = Program(LOAN)
        found = list(worlds(loan))
        persons = product((0, 14, 18), ("inside", "outside"))
        works = [None, *product((0, 3000), (False, True))]
        told = [(person, work, (market,)) for person in persons for work in works for market in (False, True)
                if work is None or person[0] > 13]
        self.assertEqual(len(told), 44)
        self.assertTrue(same(found, told))
        self.assertTrue(all(is_world(loan, world) for world in found))
        self.assertEqual({evaluate(loan, world)[0] for world in found}, set(loan.outcomes))

    def test_each_world_once(self):
        program = Program(with_rows("given a.n = 1 or a.n = 1 or m.x", "rule r a.n = 1 or a.n = 2 or a.w = lo"))
        found = list(worlds(program))
        self.assertEqual(len(found), len(set(found)))

    def test_only_those_for_which_all_givens_hold(self):
        program = Program(with_rows("given a.n = 2", "given m.x", "rule r a.w = lo"))
        self.assertEqual(list(worlds(program)), [((2, "lo", False), (True,)), ((2, "mid", False), (True,))])

    def test_equal_calls_return_equal_results(self):
        program = Program(with_rows("given m.x or a.b"))
        self.assertEqual(list(worlds(program)), list(worlds(Program(program.text))))
        self.assertEqual(list(worlds(program)), list(worlds(program)))
        self.assertEqual(program.text.split("\n")[:len(HEAD)], list(HEAD))


if __name__ == "__main__":
    unittest.main()
