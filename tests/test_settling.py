import random
import unittest
from itertools import combinations, product

from onlyasked import settling
from onlyasked.errors import BadFact, Impossible, NoWorld, Open, Settled
from onlyasked.facts import Facts
from onlyasked.programs import Program
from onlyasked.settling import (
    conflict, kept, parting, possible, settled, shows_conflict, shows_kept, shows_parting,
)
from onlyasked.worlds import evaluate, is_world
from samples import EIGHT, LOAN, TWICE, any_values, facts_of, raised, same, with_rows

LOAN_PROGRAM = Program(LOAN)
TWELVE = facts_of(person_age=12)
YOUNG = facts_of(person_age=12, person_home="inside", market_open=True)
OLD = facts_of(person_age=20, person_home="outside", work_income=100)
TWO_ROWS = Program(with_rows("decide go if a.n > 5", "decide go if a.b", "decide stop if a.n > 3"))
HERE = "onlyasked.settling"


def some_of(facts):
    """All Facts of some of the facts, the ones of fewer first."""
    return [facts.only(names) for many in range(len(facts) + 1) for names in combinations(facts.names, many)]


class NamesTest(unittest.TestCase):
    def test_they_are_defined_here(self):
        for name in ("possible", "conflict", "settled", "parting", "kept", "shows_conflict", "shows_parting", "shows_kept"):
            self.assertEqual(getattr(settling, name).__module__, HERE)

    def test_arguments_by_name(self):
        given = {"program": LOAN_PROGRAM, "facts": TWELVE}
        nothing = {"program": LOAN_PROGRAM, "facts": Facts()}
        self.assertEqual(possible(**given, rows=True), (0,))
        self.assertIsNone(conflict(**given))
        self.assertEqual(settled(**given, rows=False), "refuse")
        self.assertTrue(kept(**given, rows=True) == TWELVE)
        pair = parting(**nothing, rows=True)
        self.assertIs(shows_parting(**nothing, value=pair, rows=True), True)
        self.assertIs(shows_conflict(**given, value=None), True)
        self.assertIs(shows_kept(**given, value=TWELVE, rows=True), True)

    def test_rows_are_given_by_name_only(self):
        for call in (possible, settled, parting, kept):
            with self.assertRaises(TypeError):
                call(LOAN_PROGRAM, TWELVE, True)
        for call in (shows_parting, shows_kept):
            with self.assertRaises(TypeError):
                call(LOAN_PROGRAM, TWELVE, TWELVE, True)
        for call in (conflict, shows_conflict):
            with self.assertRaises(TypeError):
                call(LOAN_PROGRAM, TWELVE, rows=True)


    def test_rows_are_left_out_by_default(self):
        program, one = Program(TWICE), Facts((("a.x", True),))
        both = Facts((("a.x", True), ("b.x", True)))
        self.assertEqual((possible(program, one), possible(program, one, rows=True)), (("go",), (0, 1)))
        self.assertEqual((settled(program, one), settled(program, one, rows=True)), ("go", None))
        self.assertEqual((kept(program, both), kept(program, both, rows=True)), (one, both))
        for value, rows, shown in ((one, False, True), (one, True, False), (both, False, False), (both, True, True)):
            self.assertIs(shows_kept(program, both, value, rows=rows), shown)
        self.assertIs(shows_kept(program, both, one), True)
        pair = parting(program, one, rows=True)
        self.assertIs(shows_parting(program, one, pair, rows=True), True)
        self.assertEqual(raised(Settled, parting, program, one), "go")
        self.assertEqual(raised(Settled, shows_parting, program, one, pair), "go")


class ExamplesTest(unittest.TestCase):
    def test_points(self):
        program = Program(EIGHT)
        facts = facts_of(a_x=True, a_y=True, a_z=False)
        told = [settled(program, facts), kept(program, facts).pairs, possible(program, facts.only(("a.x",)))]
        self.assertTrue(same(told, ["grant", (("a.x", True), ("a.y", True)), ("grant", "refuse")]))

    def test_loan_and_the_age_of_twelve(self):
        self.assertEqual(settled(LOAN_PROGRAM, TWELVE), "refuse")
        self.assertTrue(same(settled(LOAN_PROGRAM, TWELVE, rows=True), 0))
        self.assertEqual(possible(LOAN_PROGRAM, TWELVE), ("refuse",))
        self.assertIsNone(conflict(LOAN_PROGRAM, TWELVE | facts_of(work=False)))
        for work in (facts_of(work=True), facts_of(work_income=0), facts_of(work_fixed=False)):
            self.assertTrue(conflict(LOAN_PROGRAM, TWELVE | work) == TWELVE | work)

    def test_loan_and_one_point_at_most(self):
        for more in (Facts(), facts_of(work_fixed=True), facts_of(work_fixed=False), facts_of(market_open=True),
                     facts_of(market_open=True, work_fixed=True, work=True)):
            facts = OLD | more
            for rows, result in ((False, "look"), (True, 2)):
                with self.subTest((facts.pairs, rows)):
                    self.assertTrue(same(settled(LOAN_PROGRAM, facts, rows=rows), result))
                    found = kept(LOAN_PROGRAM, facts, rows=rows)
                    self.assertTrue(found == facts_of(person_age=20, work_income=100))

    def test_loan_and_a_market_that_is_not_open(self):
        facts = OLD | facts_of(market_open=False)
        for rows in (False, True):
            self.assertTrue(shows_kept(LOAN_PROGRAM, facts, facts_of(person_age=20, work_income=100), rows=rows))
            self.assertTrue(shows_kept(LOAN_PROGRAM, facts, facts_of(person_age=20, market_open=False), rows=rows))
            self.assertFalse(shows_kept(LOAN_PROGRAM, facts, facts_of(market_open=False, work_income=100), rows=rows))


class PossibleTest(unittest.TestCase):
    def test_nothing_known(self):
        self.assertEqual(possible(LOAN_PROGRAM, Facts()), ("grant", "look", "refuse"))
        self.assertTrue(same(possible(LOAN_PROGRAM, Facts(), rows=True), (0, 1, 2)))

    def test_no_world_agrees(self):
        facts = facts_of(work=False, work_income=5)
        self.assertEqual(possible(LOAN_PROGRAM, facts), ())
        self.assertEqual(possible(LOAN_PROGRAM, facts, rows=True), ())

    def test_one_world_agrees(self):
        facts = facts_of(person_age=18, person_home="inside", work_income=9999, work_fixed=True, market_open=True)
        self.assertEqual(possible(LOAN_PROGRAM, facts), ("grant",))
        self.assertTrue(same(possible(LOAN_PROGRAM, facts, rows=True), (1,)))

    def test_rows_that_give_the_same_outcome(self):
        facts = facts_of(a_b=True)
        self.assertEqual(possible(TWO_ROWS, facts), ("go",))
        self.assertTrue(same(possible(TWO_ROWS, facts, rows=True), (0, 1)))
        self.assertEqual(possible(TWO_ROWS, Facts()), ("go", "halt", "stop"))
        self.assertTrue(same(possible(TWO_ROWS, Facts(), rows=True), (0, 1, 2, 3)))

    def test_a_fact_about_a_field_says_that_the_answer_is_there(self):
        program = Program(with_rows("decide go if there m"))
        self.assertEqual(possible(program, facts_of(m_x=False)), ("go",))
        self.assertEqual(possible(program, facts_of(m=True)), ("go",))
        self.assertEqual(possible(program, facts_of(m=False)), ("halt",))
        self.assertEqual(possible(program, facts_of(m=False, m_x=True)), ())

    def test_rows_ascend_as_integers(self):
        rows = [f"decide go if a.n = {number}" for number in range(-2, 10)]
        self.assertEqual(possible(Program(with_rows(*rows)), Facts(), rows=True), tuple(range(13)))


class BadFactTest(unittest.TestCase):
    calls = (possible, conflict, settled, parting, kept)
    shows = (shows_conflict, shows_parting, shows_kept)

    def bad(self, facts, name):
        with self.subTest(facts.pairs):
            for call in self.calls:
                self.assertEqual(raised(BadFact, call, LOAN_PROGRAM, facts), name)
            for call in self.shows:
                for value in (None, facts, [], Facts()):
                    self.assertEqual(raised(BadFact, call, LOAN_PROGRAM, facts, value), name)

    def test_names_that_are_none(self):
        for name in ("person", "market", "adult", "person.income", "a", "", "person.age ", "work.there", "work."):
            self.bad(Facts(((name, True),)), name)

    def test_values_that_are_none(self):
        for name, values in (
            ("person.age", (True, False, -1, 121, 10 ** 30, "5", "")), ("person.home", (0, True, "", "in", "inside ")),
            ("work.income", (10000, -1, False)), ("work.fixed", (0, 1, "yes", "")), ("work", (0, 1, "yes", "there", "")),
            ("market.open", (0, 1, "open")),
        ):
            for value in values:
                self.bad(Facts(((name, value),)), name)

    def test_the_least_name(self):
        self.bad(Facts((("work", 1), ("person.age", True), ("zeta", 1))), "person.age")
        self.bad(Facts((("work", True), ("market.open", True), ("zeta", 1), ("person.home", "out"))), "person.home")
        self.bad(Facts((("work.fixed", 0), ("work", 0), ("work.income", False))), "work")

    def test_it_comes_ahead_of_all_others(self):
        self.bad(facts_of(work=False, work_income=5, zeta=1), "zeta")
        self.bad(facts_of(person_age=12, zeta=1), "zeta")


class ImpossibleTest(unittest.TestCase):
    facts = facts_of(person_age=12, person_home="inside", work=False, work_income=5, market_open=True)

    def test_a_conflict_of_as_few_as_can_be(self):
        found = conflict(LOAN_PROGRAM, self.facts)
        self.assertIsInstance(found, Facts)
        self.assertEqual(len(found), 2)
        self.assertIn(found.names, (("work", "work.income"), ("person.age", "work.income")))
        self.assertTrue(found == self.facts.only(found.names))

    def test_a_single_fact(self):
        program = Program(with_rows("given a.n > 3"))
        self.assertTrue(conflict(program, facts_of(a_n=3, a_b=True, m=False)) == facts_of(a_n=3))
        self.assertIsNone(conflict(program, facts_of(a_n=4, a_b=True, m=False)))

    def test_no_conflict(self):
        for facts in (Facts(), TWELVE, OLD, facts_of(work=False), facts_of(work=True, work_income=5)):
            self.assertIsNone(conflict(LOAN_PROGRAM, facts))

    def test_all_facts_may_be_needed(self):
        program = Program("round 0\nsource a price 1\n  x yes\n  y yes\n  z yes\nsource b price 1\n  x yes\n"
                          "given points(1 a.x, 1 a.y, 1 a.z, 1 b.x) < 4\notherwise go")
        facts = facts_of(a_x=True, a_y=True, a_z=True, b_x=True)
        self.assertTrue(conflict(program, facts) == facts)

    def test_the_other_functions(self):
        for call in (settled, parting, kept):
            for rows in (False, True):
                told = raised(Impossible, lambda: call(LOAN_PROGRAM, self.facts, rows=rows))
                self.assertTrue(shows_conflict(LOAN_PROGRAM, self.facts, told))
        for call in (shows_parting, shows_kept):
            for value in (None, self.facts, Facts(), [], ()):
                told = raised(Impossible, call, LOAN_PROGRAM, self.facts, value)
                self.assertTrue(shows_conflict(LOAN_PROGRAM, self.facts, told))


class SettledTest(unittest.TestCase):
    def test_none_if_there_are_several(self):
        self.assertIsNone(settled(LOAN_PROGRAM, Facts()))
        self.assertIsNone(settled(LOAN_PROGRAM, facts_of(person_age=18)))
        self.assertIsNone(settled(TWO_ROWS, facts_of(a_b=True), rows=True))

    def test_the_only_one(self):
        self.assertEqual(settled(TWO_ROWS, facts_of(a_b=True)), "go")
        self.assertTrue(same(settled(TWO_ROWS, facts_of(a_n=9), rows=True), 0))
        self.assertEqual(settled(TWO_ROWS, facts_of(a_n=9)), "go")
        self.assertTrue(same(settled(TWO_ROWS, facts_of(a_b=False, a_n=0), rows=True), 3))

    def test_a_program_that_always_decides_alike(self):
        program = Program(with_rows("decide halt if a.b"))
        self.assertEqual(settled(program, Facts()), "halt")
        self.assertIsNone(settled(program, Facts(), rows=True))
        self.assertTrue(same(settled(Program(with_rows("decide go if true")), Facts(), rows=True), 0))

    def test_it_is_raised_with_the_result(self):
        for call in (parting, lambda *given, rows: shows_parting(*given, None, rows=rows)):
            self.assertEqual(raised(Settled, lambda: call(LOAN_PROGRAM, TWELVE, rows=False)), "refuse")
            self.assertTrue(same(raised(Settled, lambda: call(LOAN_PROGRAM, TWELVE, rows=True)), 0))
        self.assertEqual(raised(Settled, parting, TWO_ROWS, facts_of(a_b=True)), "go")


class PartingTest(unittest.TestCase):
    def test_a_pair_of_worlds(self):
        for facts in (Facts(), facts_of(person_age=19), facts_of(work_income=5000, person_home="outside"), facts_of(work=False)):
            for rows in (False, True):
                with self.subTest((facts.pairs, rows)):
                    pair = parting(LOAN_PROGRAM, facts, rows=rows)
                    self.assertIsInstance(pair, tuple)
                    self.assertEqual(len(pair), 2)
                    one, other = [evaluate(LOAN_PROGRAM, world)[rows] for world in pair]
                    self.assertNotEqual(one, other)
                    self.assertIs(shows_parting(LOAN_PROGRAM, facts, pair, rows=rows), True)

    def test_values_that_are_no_marks(self):
        facts = facts_of(person_age=77, person_home="outside", work_income=4321)
        for person, work, _ in parting(LOAN_PROGRAM, facts):
            self.assertEqual(person, (77, "outside"))
            self.assertEqual(work[0], 4321)

    def test_rows_that_give_the_same_outcome(self):
        facts = facts_of(a_b=True)
        one, other = parting(TWO_ROWS, facts, rows=True)
        self.assertEqual({evaluate(TWO_ROWS, one), evaluate(TWO_ROWS, other)}, {("go", 0), ("go", 1)})


class ShowsPartingTest(unittest.TestCase):
    grant = ((77, "inside"), (4321, False), (True,))
    look = ((77, "outside"), (4321, False), (True,))
    refuse = ((17, "inside"), None, (True,))

    def shows(self, facts, value, rows=False):
        found = shows_parting(LOAN_PROGRAM, facts, value, rows=rows)
        self.assertIsInstance(found, bool)
        return found

    def test_pairs_of_any_worlds(self):
        for pair in ((self.grant, self.look), (self.look, self.refuse), (self.refuse, self.grant)):
            for rows in (False, True):
                self.assertTrue(self.shows(Facts(), pair, rows))
                self.assertTrue(self.shows(Facts(), pair[::-1], rows))
        self.assertTrue(self.shows(facts_of(person_age=77, work_fixed=False), (self.grant, self.look)))

    def test_worlds_with_the_same_result(self):
        self.assertFalse(self.shows(Facts(), (self.look, self.look)))
        self.assertFalse(self.shows(Facts(), (self.look, ((77, "outside"), None, (False,)))))
        seven, eight = ((7, "lo", False), None), ((0, "lo", True), None)
        self.assertIs(shows_parting(TWO_ROWS, Facts(), (seven, eight)), False)
        self.assertIs(shows_parting(TWO_ROWS, Facts(), (seven, eight), rows=True), True)

    def test_worlds_that_do_not_agree(self):
        for facts in (facts_of(person_age=18), facts_of(person_home="inside"), facts_of(work=False), facts_of(market_open=False),
                      facts_of(work_fixed=True), facts_of(work_income=4322)):
            with self.subTest(facts.pairs):
                self.assertFalse(self.shows(facts, (self.grant, self.look)))
                self.assertFalse(self.shows(facts, (self.look, self.grant)))
        self.assertFalse(self.shows(facts_of(work=True), (self.refuse, self.grant)))
        self.assertFalse(self.shows(facts_of(work_fixed=False), (self.refuse, self.grant)))

    def test_what_are_no_worlds(self):
        for world in (((12, "inside"), (1, True), (True,)), ((121, "inside"), None, (True,)), [*self.refuse], list(self.refuse),
                      ((17, "inside"), None), ((True, "inside"), None, (True,)), ((17, "inside"), None, [True]), None, 0):
            with self.subTest(world):
                self.assertFalse(self.shows(Facts(), (world, self.grant)))
                self.assertFalse(self.shows(Facts(), (self.grant, world)))

    def test_values_of_any_kind(self):
        pair = (self.grant, self.look)
        for value in [*any_values(), list(pair), (*pair, self.refuse), (self.grant,), self.grant, ((self.grant, self.look),),
                      {self.grant: self.look}]:
            with self.subTest(value):
                self.assertFalse(self.shows(Facts(), value))
                self.assertFalse(self.shows(facts_of(person_age=77), value))
        for value in any_values():
            self.assertFalse(self.shows(Facts(), (value, self.grant)))


class KeptTest(unittest.TestCase):
    def test_nothing_is_needed(self):
        program = Program(with_rows("decide halt if a.b"))
        self.assertTrue(kept(program, facts_of(a_b=True, a_n=3)) == Facts())
        self.assertTrue(kept(program, facts_of(a_b=True, a_n=3), rows=True) == facts_of(a_b=True))

    def test_loan(self):
        self.assertTrue(kept(LOAN_PROGRAM, YOUNG) == TWELVE)
        facts = facts_of(person_age=20, work=False, market_open=True, person_home="inside")
        self.assertTrue(kept(LOAN_PROGRAM, facts) == facts_of(person_age=20, work=False))

    def test_rows_that_give_the_same_outcome(self):
        facts = facts_of(a_b=True, a_n=9, m=False)
        self.assertEqual(len(kept(TWO_ROWS, facts)), 1)
        self.assertTrue(kept(TWO_ROWS, facts, rows=True) == facts_of(a_n=9))
        facts = facts_of(a_b=True, a_n=5)
        self.assertTrue(kept(TWO_ROWS, facts) == facts_of(a_b=True))
        self.assertTrue(kept(TWO_ROWS, facts, rows=True) == facts)

    def test_values_that_are_no_marks(self):
        self.assertTrue(kept(TWO_ROWS, facts_of(a_n=8, a_b=False)).pairs == (("a.n", 8),))

    def test_open(self):
        for rows, told in ((False, ("grant", "look")), (True, (1, 2))):
            facts = facts_of(person_age=18, person_home="inside")
            self.assertTrue(same(raised(Open, lambda: kept(LOAN_PROGRAM, facts, rows=rows)), told))
            for value in (None, Facts(), facts):
                self.assertTrue(same(raised(Open, lambda: shows_kept(LOAN_PROGRAM, facts, value, rows=rows)), told))
        self.assertTrue(same(raised(Open, lambda: kept(TWO_ROWS, facts_of(a_b=True), rows=True)), (0, 1)))

    def test_a_fact_less_is_too_few(self):
        program = Program("round 0\nsource a price 1\n  x yes\n  y yes\n  z yes\nsource b price 1\n  x yes\n  y yes\n"
                          "decide go if a.x and a.y and a.z and b.x and b.y\notherwise halt")
        facts = facts_of(a_x=True, a_y=True, a_z=True, b_x=True, b_y=True)
        self.assertTrue(kept(program, facts) == facts)
        self.assertEqual(len(kept(program, facts_of(a_x=True, a_y=True, a_z=False, b_x=False, b_y=True))), 1)


class ShowsConflictTest(unittest.TestCase):
    facts = facts_of(person_age=12, person_home="inside", work=False, work_income=5)

    def shows(self, facts, value):
        found = shows_conflict(LOAN_PROGRAM, facts, value)
        self.assertIsInstance(found, bool)
        return found

    def test_right_values(self):
        self.assertTrue(self.shows(self.facts, facts_of(work=False, work_income=5)))
        self.assertTrue(self.shows(self.facts, facts_of(person_age=12, work_income=5)))
        self.assertTrue(self.shows(TWELVE, None))
        self.assertTrue(self.shows(Facts(), None))

    def test_wrong_values(self):
        for value in (None, Facts(), self.facts, facts_of(person_age=12), facts_of(work_income=5), facts_of(work=False),
                      facts_of(person_age=12, work=False), facts_of(person_age=12, work=False, work_income=5),
                      facts_of(work=False, work_income=6), facts_of(work=True, work_income=5), facts_of(work=0, work_income=5),
                      facts_of(person_age=13, work_income=5), facts_of(work=False, work_fixed=True), facts_of(zeta=1, a=2)):
            with self.subTest(value):
                self.assertFalse(self.shows(self.facts, value))
        for value in (Facts(), TWELVE, YOUNG, False, 0, ()):
            with self.subTest(value):
                self.assertFalse(self.shows(TWELVE, value))

    def test_values_of_any_kind(self):
        right = facts_of(work=False, work_income=5)
        for value in [*any_values(), right.pairs, list(right.pairs), right.names, (right,), [right], dict(right.pairs)]:
            with self.subTest(value):
                self.assertFalse(self.shows(self.facts, value))
                if value is not None:
                    self.assertFalse(self.shows(TWELVE, value))


class ShowsKeptTest(unittest.TestCase):
    def shows(self, program, facts, value, rows=False):
        found = shows_kept(program, facts, value, rows=rows)
        self.assertIsInstance(found, bool)
        return found

    def test_all_right_values(self):
        facts = facts_of(a_b=True, a_n=9)
        self.assertTrue(self.shows(TWO_ROWS, facts, facts_of(a_b=True)))
        self.assertTrue(self.shows(TWO_ROWS, facts, facts_of(a_n=9)))
        self.assertFalse(self.shows(TWO_ROWS, facts, facts_of(a_b=True), rows=True))
        self.assertTrue(self.shows(TWO_ROWS, facts, facts_of(a_n=9), rows=True))

    def test_wrong_values(self):
        facts = facts_of(a_b=True, a_n=9, a_w="lo")
        for value in (Facts(), facts, facts_of(a_b=True, a_n=9), facts_of(a_w="lo"), facts_of(a_b=False), facts_of(a_b=1),
                      facts_of(a_n=8), facts_of(a_n=True), facts_of(m=True), facts_of(a_n=9, zeta=1), facts_of(zeta=9)):
            with self.subTest(value.pairs):
                self.assertFalse(self.shows(TWO_ROWS, facts, value))
                self.assertFalse(self.shows(TWO_ROWS, facts, value, rows=True))

    def test_values_of_any_kind(self):
        for value in [*any_values(), TWELVE.pairs, list(TWELVE.pairs), dict(TWELVE.pairs), TWELVE.names, (TWELVE,), [TWELVE],
                      "person.age", 12]:
            with self.subTest(value):
                self.assertFalse(self.shows(LOAN_PROGRAM, YOUNG, value))
                self.assertFalse(self.shows(LOAN_PROGRAM, YOUNG, value, rows=True))
        self.assertTrue(self.shows(LOAN_PROGRAM, YOUNG, TWELVE))


class RandomProgramsTest(unittest.TestCase):
    """Against the definitions, by all worlds of any values and all sets of facts."""

    fields = {"a.n": range(5), "a.b": (False, True), "m.w": ("lo", "mid", "hi"), "s.x": (False, True)}
    head = "round 0\nsource a price 1\n  n 0..4\n  b yes\nsource m price 1 maybe\n  w lo mid hi\nsource s price 1\n  x yes\n"

    def leaf(self, dice):
        return dice.choice(["a.b", "s.x", "there m", f"a.n {dice.choice('<>=')} {dice.randint(0, 4)}", "m.w = lo",
                            "m.w in (mid, lo)", "m.w = hi", "not a.b", "not m.w = mid"])

    def expression(self, dice):
        leaves = [self.leaf(dice) for _ in range(dice.randint(1, 4))]
        points = ", ".join([f"{dice.randint(-2, 3)} {leaf}" for leaf in leaves])
        return dice.choice([" and ".join(leaves), " or ".join(leaves), f"points({points}) > {dice.randint(-1, 3)}"])

    def program(self, dice):
        rows = [f"given {self.expression(dice)}" for _ in range(dice.randint(0, 2))]
        rows += [f"decide {dice.choice(['go', 'halt', 'look'])} if {self.expression(dice)}" for _ in range(dice.randint(1, 4))]
        try:
            return Program(self.head + "\n".join([*rows, "otherwise halt"]))
        except NoWorld:
            return self.program(dice)

    def told(self, world):
        (number, yes), other, (x,) = world
        told = {"a.n": number, "a.b": yes, "s.x": x, "m": other is not None}
        return told if other is None else {**told, "m.w": other[0]}

    def all_worlds(self, program):
        answers = product(product(range(5), (False, True)), [None, ("lo",), ("mid",), ("hi",)], [(False,), (True,)])
        return [(world, self.told(world), evaluate(program, world)) for world in answers if is_world(program, world)]

    def random_facts(self, dice, worlds):
        told = dict(dice.choice(worlds)[1])
        while dice.random() < 0.6:
            name = dice.choice([*self.fields, "m"])
            told[name] = dice.choice(self.fields.get(name, (False, True)))
        return Facts(tuple(dice.sample(list(told.items()), dice.randint(0, len(told)))))

    def results(self, worlds, facts, rows):
        return {result[rows] for _, told, result in worlds
                if all(name in told and told[name] == value for name, value in facts.pairs)}

    def check_conflict(self, program, facts, worlds):
        least = min([len(some) for some in some_of(facts) if not self.results(worlds, some, 0)])
        found = raised(Impossible, settled, program, facts)
        self.assertTrue(found == conflict(program, facts))
        for some in some_of(facts):
            right = len(some) == least and not self.results(worlds, some, 0)
            self.assertIs(shows_conflict(program, facts, some), right)
        self.assertIs(shows_conflict(program, facts, found), True)

    def check_kept(self, program, facts, worlds, rows):
        results = self.results(worlds, facts, rows)
        least = min([len(some) for some in some_of(facts) if self.results(worlds, some, rows) == results])
        for some in some_of(facts):
            right = len(some) == least and self.results(worlds, some, rows) == results
            self.assertIs(shows_kept(program, facts, some, rows=rows), right)
        self.assertIs(shows_kept(program, facts, kept(program, facts, rows=rows), rows=rows), True)

    def test_random_programs(self):
        dice = random.Random(11)
        ways = {"impossible": 0, "kept": 0, "parting": 0}
        for _ in range(300):
            program = self.program(dice)
            worlds = self.all_worlds(program)
            for rows in (False, True, False):
                facts = self.random_facts(dice, worlds)
                results = self.results(worlds, facts, rows)
                with self.subTest((program.text, facts.pairs, rows)):
                    self.assertEqual(possible(program, facts, rows=rows), tuple(sorted(results)))
                    if not results:
                        ways["impossible"] += 1
                        self.check_conflict(program, facts, worlds)
                        continue
                    self.assertIs(shows_conflict(program, facts, None), True)
                    self.assertIsNone(conflict(program, facts))
                    if len(results) == 1:
                        ways["kept"] += 1
                        self.assertTrue(same(settled(program, facts, rows=rows), min(results)))
                        self.check_kept(program, facts, worlds, rows)
                    else:
                        ways["parting"] += 1
                        self.assertIsNone(settled(program, facts, rows=rows))
                        self.assertIs(shows_parting(program, facts, parting(program, facts, rows=rows), rows=rows), True)
        self.assertTrue(min(ways.values()) > 40, ways)


class NothingChangesTest(unittest.TestCase):
    def test_what_was_handed_in(self):
        facts = facts_of(person_age=20, person_home="outside", work_income=100, market_open=True)
        pairs = facts.pairs
        for _ in range(2):
            self.assertTrue(same(kept(LOAN_PROGRAM, facts).pairs, kept(LOAN_PROGRAM, facts).pairs))
            self.assertEqual(parting(LOAN_PROGRAM, Facts()), parting(LOAN_PROGRAM, Facts()))
            raised(Settled, parting, LOAN_PROGRAM, facts)
            raised(Open, kept, LOAN_PROGRAM, Facts())
            raised(BadFact, possible, LOAN_PROGRAM, facts_of(zeta=1))
            self.assertTrue(same(facts.pairs, pairs))
            self.assertEqual(LOAN_PROGRAM.text, LOAN)
            self.assertTrue(LOAN_PROGRAM == Program(LOAN))


if __name__ == "__main__":
    unittest.main()
