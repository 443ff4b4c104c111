import inspect
import random
import unittest

import drawing
from modelling import Model, state_of, told_of
from onlyasked import house as module
from onlyasked.book import Page
from onlyasked.errors import Begun, Impossible, NoCase, NoPage, NoSubject
from onlyasked.facts import Facts
from onlyasked.house import House
from onlyasked.housetexts import read_house, show_house
from onlyasked.outside import Outside
from onlyasked.plans import plan
from onlyasked.programs import Program
from onlyasked.standings import Known
from onlyasked.worlds import evaluate
from samples import BOTH, CLUB, LOAN, TWICE, any_values, raised, same

BOTH_PROGRAM, CLUB_PROGRAM, LOAN_PROGRAM = Program(BOTH), Program(CLUB), Program(LOAN)
YES, NO = (True,), (False,)
ALL = (YES, YES, YES)


def house_of(program, rows=False, **worlds):
    return House(Outside(program, tuple(worlds.items())), rows=rows)


def begun(program, rows=False, **worlds):
    """A house with these cases begun."""
    house = house_of(program, rows, **worlds)
    for subject in worlds:
        house.begin(subject)
    return house


def words(told):
    return [word for _, _, word in told]


def coming(house):
    return [line for line in show_house(house).split("\n") if line.startswith("coming")]


class NamesTest(unittest.TestCase):
    METHODS = {
        "begin": ["subject"], "standing": ["subject"], "told": ["subject"], "go": ["troubles"], "page": ["subject"],
        "rest": ["subject"], "revise": ["program"], "news": ["source", "subject"], "again": ["subject"], "undo": [],
        "trial": [], "tried": ["look"],
    }

    def test_it_is_defined_here_with_its_methods(self):
        self.assertIs(module.House, House)
        self.assertEqual(House.__module__, "onlyasked.house")
        for name, parameters in self.METHODS.items():
            self.assertIn(name, vars(House))
            self.assertEqual(list(inspect.signature(vars(House)[name]).parameters)[1:], parameters)
        self.assertIn("__init__", vars(House))

    def test_rows_are_given_by_name_only(self):
        outside = Outside(BOTH_PROGRAM, (("sam", (YES, YES)),))
        self.assertIsInstance(House(outside=outside, rows=True), House)
        with self.assertRaises(TypeError):
            House(outside, True)

    def test_arguments_by_name(self):
        house = house_of(CLUB_PROGRAM, ann=ALL)
        house.begin(subject="ann")
        self.assertEqual((house.standing(subject="ann"), house.told(subject="ann")), (Known(), 10))
        self.assertEqual(words(house.go(troubles=("lost",))), ["lost", "ok", "ok"])
        house.go()
        self.assertEqual(house.page(subject="ann").outcome, "go")
        self.assertEqual(len(house.rest(subject="ann").lines), 3)
        self.assertEqual(house.news(subject="ann", source="a"), ("ann",))
        house.go()
        house.again(subject="ann")
        self.assertEqual(house.revise(program=CLUB_PROGRAM), (("ann",), ()))
        self.assertEqual(house.tried(look=lambda held: held.cases), ())


class NewHouseTest(unittest.TestCase):
    def test_properties(self):
        outside = Outside(LOAN_PROGRAM, (("eva", ((20, "inside"), None, YES)),))
        house = House(outside)
        self.assertIs(house.outside, outside)
        self.assertIs(house.program, LOAN_PROGRAM)
        self.assertEqual((house.spent, house.cases, house.pages), (0, (), ()))


class ExampleTest(unittest.TestCase):
    def test_the_example(self):
        house = house_of(BOTH_PROGRAM, sam=(YES, YES))
        self.assertIsNone(house.begin("sam"))
        told = [house.told("sam"), house.go(), house.spent, house.page("sam").outcome]
        self.assertEqual(told, [3, (("a", "sam", "ok"), ("b", "sam", "ok")), 3, "grant"])


class BeginTest(unittest.TestCase):
    def test_cases_ascend(self):
        house = house_of(CLUB_PROGRAM, cat=ALL, ann=ALL, bob=ALL)
        for subject, cases in (("bob", ("bob",)), ("ann", ("ann", "bob")), ("cat", ("ann", "bob", "cat"))):
            self.assertIsNone(house.begin(subject))
            self.assertEqual(house.cases, cases)
        self.assertEqual((house.outside.time, house.spent, house.outside.paid, house.pages), (0, 0, 0, ()))

    def test_no_subject_for_any_value(self):
        house = begun(CLUB_PROGRAM, ann=ALL)
        before = show_house(house)
        for value in (*any_values(), "bob", "Ann", ("ann",), ["ann"]):
            self.assertTrue(same(raised(NoSubject, house.begin, value), value))
        self.assertEqual(show_house(house), before)

    def test_begun_if_open_or_decided(self):
        house = begun(CLUB_PROGRAM, ann=ALL, bob=ALL)
        self.assertEqual(raised(Begun, house.begin, "ann"), "ann")
        house.go(("lost",))
        before = show_house(house)
        self.assertEqual(house.cases, ("ann",))
        for subject in ("ann", "bob"):
            self.assertEqual(raised(Begun, house.begin, subject), subject)
        self.assertEqual(show_house(house), before)

    def test_a_subject_that_is_opened_knows_the_common_answers_that_are_good_now(self):
        house = begun(CLUB_PROGRAM, ann=(NO, YES, YES))
        house.go()
        for lines in ((("m.z", True, 3),), (("m.z", True, 2),)):
            with house.trial() as held:
                held.news("a", "ann")
                self.assertEqual(held.standing("ann").lines, lines)
            house.outside.tick()

    def test_common_answers_that_are_gone(self):
        for ticks, lines in ((0, (("m.z", True, 3),)), (3, (("m.z", True, 0),)), (4, ())):
            house = house_of(CLUB_PROGRAM, ann=ALL, bob=ALL)
            house.begin("ann")
            house.go()
            for _ in range(ticks):
                house.outside.tick()
            house.begin("bob")
            self.assertEqual(house.standing("bob").lines, lines)
            self.assertEqual(house.told("bob"), 6 if ticks < 3 else 10)

    def test_common_answers_may_settle_it(self):
        house = house_of(CLUB_PROGRAM, ann=(YES, YES, NO), bob=(YES, YES, NO))
        house.begin("ann")
        house.go()
        house.outside.tick()
        self.assertIsNone(house.begin("bob"))
        self.assertEqual(house.cases, ())
        self.assertEqual(told_of(house.page("bob")), ("bob", 2, "halt", 1, Known((("m.z", False, 2),))))

    def test_what_is_settled_without_facts(self):
        program = Program("round 1\nsource a price 1\n  x yes\ndecide go if a.x or not a.x\notherwise halt")
        house = house_of(program, ann=(YES,))
        house.begin("ann")
        self.assertEqual(told_of(house.page("ann")), ("ann", 0, "go", 0, Known()))
        self.assertEqual(house.go(), ())
        self.assertEqual((house.spent, house.outside.paid, house.outside.time), (0, 0, 1))


class StandingTest(unittest.TestCase):
    def test_no_case_for_any_value(self):
        house = begun(CLUB_PROGRAM, ann=ALL, bob=ALL)
        house.go(("lost",))
        for call in (house.standing, house.told):
            for value in (*any_values(), "bob", "cat", ("ann",), ["ann"]):
                self.assertTrue(same(raised(NoCase, call, value), value))

    def test_lives_are_counted_by_the_time_of_the_outside(self):
        house = begun(CLUB_PROGRAM, ann=ALL)
        self.assertEqual(house.standing("ann"), Known())
        house.go(("ok", "lost", "ok"))
        self.assertEqual(house.standing("ann").lines, (("a.x", True, 2), ("m.z", True, 3)))
        self.assertEqual(house.told("ann"), 5)
        for lines in ((("a.x", True, 1), ("m.z", True, 2)), (("a.x", True, 0), ("m.z", True, 1)), (("m.z", True, 0),),
                      ()):
            house.outside.tick()
            self.assertEqual(house.standing("ann").lines, lines)
            self.assertEqual(house.told("ann"), plan(CLUB_PROGRAM, Known(lines)).price)

    def test_facts_that_stay_for_ever(self):
        program = Program(CLUB.replace(" stay 2", ""))
        house = begun(program, ann=ALL)
        house.go(("ok", "lost", "lost"))
        for _ in range(7):
            self.assertEqual(house.standing("ann").lines, (("a.x", True, None),))
            house.outside.tick()


class RoundTest(unittest.TestCase):
    """Rounds without trouble."""

    def test_a_round(self):
        house = begun(CLUB_PROGRAM, bob=(NO, YES, YES), ann=ALL, cat=(YES, None, YES))
        told = house.go()
        self.assertTrue(same(told,
                             (("a", "ann", "ok"), ("b", "ann", "ok"), ("m", None, "ok"), ("a", "bob", "ok"),
                              ("b", "bob", "ok"),
                                    ("a", "cat", "ok"), ("b", "cat", "ok"))))
        self.assertEqual((house.spent, house.outside.paid, house.outside.time), (18, 16, 1))
        self.assertEqual([told_of(page) for page in house.pages], [
            ("ann", 1, "go", 0, Known((("a.x", True, 2), ("b.y", True, 1), ("m.z", True, 3)))),
            ("bob", 1, "halt", 1, Known((("a.x", False, 2),))), ("cat", 1, "halt", 1, Known((("b", False, 1),))),
        ])
        self.assertEqual(house.cases, ())

    def test_cases_begun_later(self):
        house = house_of(CLUB_PROGRAM, ann=ALL, bob=ALL, cat=ALL)
        house.begin("bob")
        house.go()
        house.begin("ann")
        self.assertEqual(house.go(), (("a", "ann", "ok"), ("b", "ann", "ok")))
        house.begin("cat")
        self.assertEqual(house.standing("cat").lines, (("m.z", True, 2),))
        self.assertEqual(house.go(), (("a", "cat", "ok"), ("b", "cat", "ok")))
        self.assertEqual((house.spent, house.outside.paid), (10 + 6 + 6, 8 + 4 + 4))
        self.assertEqual([page.subject for page in house.pages], ["bob", "ann", "cat"])
        self.assertEqual([page.time for page in house.pages], [1, 2, 3])

    def test_what_is_asked_goes_by_the_standing_ahead_of_the_tick(self):
        """m.z is good for one more round when the round begins: it need not be asked; with no further one it must."""
        for ticks, asked in ((2, ("a", "b")), (3, ("a", "b", "m"))):
            house = house_of(CLUB_PROGRAM, ann=ALL, bob=ALL)
            house.begin("ann")
            house.go()
            for _ in range(ticks):
                house.outside.tick()
            house.begin("bob")
            self.assertEqual(tuple(source for source, _, _ in house.go()), asked)
            self.assertEqual(house.page("bob").outcome, "go")

    def test_without_cases_the_round_costs_nothing(self):
        house = house_of(CLUB_PROGRAM, ann=ALL)
        self.assertEqual(house.go(), ())
        self.assertEqual((house.spent, house.outside.paid, house.outside.time), (0, 0, 1))

    def test_names_that_begin_with_one_another(self):
        program = Program(CLUB.replace("source b", "source aa").replace("b.y", "aa.y").replace("source m",
            "source aaa").replace("m.z", "aaa.z"))
        house = begun(program, an=ALL, ann=ALL, a=(YES, NO, YES))
        self.assertEqual(house.go(("ok", "lost")), (
            ("a", "a", "ok"), ("aa", "a", "lost"), ("aaa", None, "ok"), ("a", "an", "ok"), ("aa", "an", "ok"),
            ("a", "ann", "ok"), ("aa", "ann", "ok")))
        self.assertEqual(house.standing("a").lines, (("a.x", True, 2), ("aaa.z", True, 3)))
        self.assertEqual(house.go(("lost",)), (("aa", "a", "lost"),))
        self.assertEqual(house.standing("a").lines, (("a.x", True, 1), ("aaa.z", True, 2)))

    def test_sources_of_one_case_ascend(self):
        program = Program(CLUB.replace("source a", "source z").replace("a.x", "z.x"))
        self.assertEqual(begun(program, ann=ALL).go(), (("b", "ann", "ok"), ("m", None, "ok"), ("z", "ann", "ok")))

    def test_pages_of_one_step_are_by_subject(self):
        house = begun(CLUB_PROGRAM, dan=(YES, YES, NO), cat=(YES, YES, NO), ann=(YES, YES, NO))
        house.go(("lost",) * 2)
        self.assertEqual([page.subject for page in house.pages], ["ann", "cat", "dan"])

    def test_common_answers_are_known_to_all_open_cases(self):
        house = begun(CLUB_PROGRAM, ann=(YES, YES, NO), bob=(YES, YES, NO))
        self.assertEqual(words(house.go(("lost", "lost", "ok", "lost", "lost"))),
                         ["lost", "lost", "ok", "lost", "lost"])
        self.assertEqual([told_of(page)[2:] for page in house.pages], [("halt", 1, Known((("m.z", False, 3),)))] * 2)

    def test_drawn_houses_end(self):
        """Until all is decided: rightly, and for no more than what was told (guarantees (a) and (c))."""
        draw = random.Random(41)
        for _ in range(60):
            program = drawing.program(draw, 1, 3, common=0.4)
            names = ("ann", "bob", "cat", "dan")[:draw.randint(1, 4)]
            house = House(Outside(program, drawing.truths(draw, program, names)), rows=draw.random() < 0.3)
            waiting, told = list(names), 0
            while waiting or house.cases:
                while waiting and draw.random() < 0.7:
                    house.begin(waiting[0])
                    told += house.told(waiting[0]) if waiting[0] in house.cases else 0
                    waiting.pop(0)
                for _, _, word in house.go():
                    self.assertEqual(word, "ok")
                for page in house.pages:
                    if page.time == house.outside.time:
                        outcome, row = evaluate(program, house.outside.truth(page.subject))
                        self.assertEqual((page.outcome, row if page.row is None else page.row), (outcome, row))
            self.assertLessEqual(house.spent, told)


class RowsTest(unittest.TestCase):
    TEXT = TWICE.replace("decide go if a.x and b.x\ndecide go if a.x", "decide go if a.x\ndecide go if b.x")

    def test_the_row_is_none_if_several_are_open(self):
        house = begun(Program(TWICE), ann=(YES, NO))
        house.go()
        self.assertEqual(told_of(house.page("ann")), ("ann", 1, "go", None, Known((("a.x", True, None),))))
        self.assertEqual(house.spent, 2)

    def test_without_rows_by_default(self):
        house = House(Outside(Program(TWICE), (("ann", (YES, NO)),)))
        house.begin("ann")
        self.assertEqual(house.told("ann"), 2)
        house.go()
        self.assertEqual((house.page("ann").row, show_house(house).split("\n")[2]), (None, "rows no"))

    def test_a_house_with_rows_settles_the_row(self):
        house = begun(Program(TWICE), rows=True, ann=(YES, NO))
        self.assertEqual(house.told("ann"), 7)
        house.go()
        self.assertEqual(told_of(house.page("ann")),
                         ("ann", 1, "go", 1, Known((("a.x", True, None), ("b.x", False, None)))))

    def test_rows_told_by_the_facts(self):
        house = begun(Program(self.TEXT), ann=(YES, YES), bob=(NO, YES), cat=(NO, NO))
        house.go()
        house.go()
        told = [(page.subject, page.outcome, page.row, page.known.lines) for page in house.pages]
        a, b = ("a.x", False, None), ("b.x", False, None)
        self.assertIn(("cat", "halt", 2, (a, b)), told)
        self.assertEqual([one[:3] for one in sorted(told)][0], ("ann", "go", 0))
        bob = [page for page in house.pages if page.subject == "bob"][0]
        self.assertEqual((bob.outcome, bob.row, bob.known.lines), ("go", None, (("b.x", True, None),)))

    def test_rows_and_least_facts(self):
        house = begun(Program(self.TEXT), rows=True, ann=(NO, YES))
        house.go()
        house.go()
        self.assertEqual(told_of(house.page("ann"))[2:], ("go", 1, Known((("a.x", False, None), ("b.x", True, None)))))


class TroubleTest(unittest.TestCase):
    def test_lost(self):
        house = begun(CLUB_PROGRAM, ann=ALL)
        self.assertEqual(words(house.go(("ok", "lost", "ok"))), ["ok", "lost", "ok"])
        self.assertEqual((house.spent, house.outside.paid), (10, 8))
        self.assertEqual((house.cases, coming(house)), (("ann",), []))
        self.assertEqual(house.go(), (("b", "ann", "ok"),))
        self.assertEqual((house.spent, house.outside.paid), (15, 11))
        lives = house.page("ann").known.lines
        self.assertEqual(lives, (("a.x", True, 1), ("b.y", True, 1), ("m.z", True, 2)))

    def test_what_is_lost_is_promised(self):
        for word, promised in (("lost", True), ("late", True), ("crash", True), ("ok", True), ("twice", True),
                               ("down", False)):
            house = begun(CLUB_PROGRAM, ann=ALL)
            house.go((word, "down", "down"))
            try:
                house.outside.put("ann", (NO, YES, YES))
                self.assertFalse(promised, word)
            except ValueError as error:
                self.assertEqual((promised, error.value), (True, "a"))

    def test_all_lost(self):
        house = begun(CLUB_PROGRAM, ann=ALL)
        house.go(("lost",) * 3)
        self.assertEqual((house.spent, house.standing("ann")), (10, Known()))
        self.assertEqual(len(house.go()), 3)
        self.assertEqual(house.spent, 20)

    def test_late(self):
        house = begun(CLUB_PROGRAM, ann=ALL)
        self.assertEqual(words(house.go(("ok", "late", "ok"))), ["ok", "late", "ok"])
        self.assertEqual((house.spent, coming(house)), (10, ["coming b ann 0 yes"]))
        self.assertEqual(house.standing("ann").lines, (("a.x", True, 2), ("m.z", True, 3)))
        self.assertEqual(house.go(), ())
        self.assertEqual((house.spent, house.outside.paid, house.outside.time, coming(house)), (10, 8, 2, []))
        self.assertEqual(told_of(house.page("ann")),
                         ("ann", 2, "go", 0, Known((("a.x", True, 1), ("b.y", True, 0), ("m.z", True, 2)))))

    def test_late_with_no_life_left(self):
        house = begun(Program(CLUB.replace(" stay 1", " stay 0")), ann=ALL)
        house.go(("ok", "late", "ok"))
        self.assertEqual(coming(house), [])
        self.assertEqual(house.go(), (("b", "ann", "ok"),))
        self.assertEqual(house.spent, 15)

    def test_late_with_a_tick_between(self):
        for ticks, late, lives in ((0, ["coming a ann 1 yes"], [1]), (1, ["coming a ann 0 yes"], [0]), (2, [], [])):
            house = begun(CLUB_PROGRAM, ann=ALL)
            house.go(("late", "lost", "lost"))
            for _ in range(ticks):
                house.outside.tick()
            self.assertEqual(coming(house), late)
            house.go(("lost",) * 3)
            self.assertEqual(house.standing("ann").lines, tuple(("a.x", True, life) for life in lives))

    def test_late_for_ever(self):
        house = begun(Program(CLUB.replace(" stay 2", "")), ann=ALL)
        house.go(("late", "lost", "lost"))
        for _ in range(5):
            self.assertEqual(coming(house), ["coming a ann ever yes"])
            house.outside.tick()
        house.go(("lost",) * 3)
        self.assertEqual(house.standing("ann").lines, (("a.x", True, None),))

    def test_late_and_not_regarded(self):
        """What comes with the next round is asked again all the same, as the standing ahead of the tick goes."""
        house = begun(CLUB_PROGRAM, ann=ALL, bob=ALL)
        house.go(("late", "lost", "lost", "late", "lost"))
        self.assertEqual(house.go(("lost",)),
                         (("a", "ann", "lost"), ("b", "ann", "ok"), ("m", None, "ok"), ("a", "bob", "ok"),
                          ("b", "bob", "ok")))
        self.assertEqual(house.page("ann").known.lines[0], ("a.x", True, 1))
        self.assertEqual(house.page("bob").known.lines[0], ("a.x", True, 2))

    def test_late_and_common(self):
        house = begun(CLUB_PROGRAM, ann=(YES, NO, NO), bob=ALL[:2] + (NO,))
        house.go(("lost", "lost", "late", "lost", "lost"))
        self.assertEqual(coming(house), ["coming m - 2 no"])
        self.assertEqual((house.cases, house.go(), house.spent), (("ann", "bob"), (), 14))
        self.assertEqual([told_of(page) for page in house.pages],
                         [(name, 2, "halt", 1, Known((("m.z", False, 2),))) for name in ("ann", "bob")])

    def test_late_for_a_case_that_is_decided(self):
        house = begun(CLUB_PROGRAM, ann=(NO, YES, YES))
        house.go(("ok", "late", "late"))
        self.assertEqual((house.cases, coming(house)), ((), ["coming b ann 0 yes", "coming m - 2 yes"]))
        rest = house.rest("ann")
        house.go()
        self.assertEqual((coming(house), house.rest("ann"), len(house.pages)), ([], rest.later(), 1))
        house.again("ann")
        self.assertEqual(len(house.pages), 2)
        house.outside.release("a", "ann")
        house.news("a", "ann")
        self.assertEqual(house.standing("ann").lines, (("m.z", True, 2),))

    def test_late_for_a_case_that_is_open_again(self):
        house = begun(CLUB_PROGRAM, ann=(NO, YES, YES))
        house.go(("ok", "late", "lost"))
        house.news("a", "ann")
        self.assertEqual(house.cases, ("ann",))
        house.go(("lost",) * 3)
        self.assertEqual(house.standing("ann").lines, (("b", True, 0), ("b.y", True, 0)))

    def test_twice(self):
        house = begun(CLUB_PROGRAM, ann=ALL, bob=ALL)
        self.assertEqual(words(house.go(("twice", "lost", "twice", "lost", "lost"))),
                         ["twice", "lost", "twice", "lost", "lost"])
        self.assertEqual((house.spent, house.outside.paid), (14, 12))
        self.assertEqual(house.standing("ann").lines, (("a.x", True, 2), ("m.z", True, 3)))
        self.assertEqual(coming(house), ["coming a ann 1 yes", "coming m - 2 yes"])
        house.go(("lost",) * 3)
        self.assertEqual((house.standing("ann").lines, coming(house)), ((("a.x", True, 1), ("m.z", True, 2)), []))

    def test_down(self):
        house = begun(CLUB_PROGRAM, ann=ALL)
        self.assertEqual(words(house.go(("down", "ok", "down"))), ["down", "ok", "down"])
        self.assertEqual((house.spent, house.outside.paid), (5, 3))
        self.assertEqual(house.standing("ann").lines, (("b", True, 1), ("b.y", True, 1)))
        self.assertEqual(house.go(("down",) * 3), (("a", "ann", "down"), ("m", None, "down")))
        self.assertEqual((house.spent, house.outside.paid, house.outside.time), (5, 3, 2))

    def test_a_common_source_that_is_down_for_all(self):
        house = begun(CLUB_PROGRAM, ann=ALL, bob=ALL)
        told = house.go(("ok", "ok", "down", "ok", "ok"))
        self.assertEqual(told, (("a", "ann", "ok"), ("b", "ann", "ok"), ("m", None, "down"), ("a", "bob", "ok"),
                                ("b", "bob", "ok")))
        self.assertEqual((house.spent, house.cases), (10, ("ann", "bob")))
        self.assertEqual(house.go(), (("m", None, "ok"),))
        self.assertEqual((house.spent, house.cases), (16, ()))

    def test_a_crash(self):
        house = begun(CLUB_PROGRAM, ann=ALL, bob=ALL)
        told = house.go(("ok", "late", "twice", "crash", "late"))
        self.assertEqual(told, (("a", "ann", "ok"), ("b", "ann", "late"), ("m", None, "twice"), ("a", "bob", "crash"),
                                ("b", "bob", "none")))
        self.assertEqual((house.spent, house.outside.paid), (2 + 1 + 3 + 4 + 1, 9))
        self.assertEqual((house.standing("ann"), house.standing("bob"), coming(house)),
                         (Known(), Known(), ["coming b ann 0 yes"]))
        self.assertEqual(len(house.go()), 5)
        self.assertEqual([page.outcome for page in house.pages], ["go", "go"])

    def test_what_a_crash_is_behind_and_ahead_of(self):
        for troubles, expected, spent in (
            (("crash",), ["crash", "none", "none"], 3), (("ok", "crash"), ["ok", "crash", "none"], 6),
            (("down", "crash", "ok"), ["down", "crash", "none"], 5), (("lost", "down", "crash"),
                ["lost", "down", "crash"], 7),
            (("crash", "crash", "down"), ["crash", "none", "none"], 3),
            (("twice", "late", "crash"), ["twice", "late", "crash"], 10),
        ):
            with self.subTest(troubles):
                house = begun(CLUB_PROGRAM, ann=ALL)
                self.assertEqual(words(house.go(troubles)), expected)
                self.assertEqual((house.spent, house.standing("ann")), (spent, Known()))
                self.assertEqual(coming(house), ["coming b ann 0 yes"] if "late" in troubles else [])

    def test_a_common_source_behind_a_crash_is_told_once(self):
        house = begun(CLUB_PROGRAM, ann=ALL, bob=ALL)
        self.assertEqual(house.go(("crash",)),
                         (("a", "ann", "crash"), ("b", "ann", "none"), ("m", None, "none"), ("a", "bob", "none"),
                          ("b", "bob", "none")))

    def test_what_came_earlier_is_kept_by_a_crash(self):
        house = begun(CLUB_PROGRAM, ann=ALL)
        house.go(("ok", "late", "down"))
        house.go(("crash",))
        self.assertEqual(house.standing("ann").lines, (("a.x", True, 1), ("b", True, 0), ("b.y", True, 0)))

    def test_fewer_and_more_words(self):
        for troubles in ((), ("ok",), ("ok", "ok", "ok"), ("ok", "ok", "ok", "crash"),
                         ("ok",) * 3 + ("lost", "down", "late") * 5):
            house = begun(CLUB_PROGRAM, ann=ALL)
            self.assertEqual(words(house.go(troubles)), ["ok"] * 3)
            self.assertEqual((house.spent, house.page("ann").outcome), (10, "go"))

    def test_the_round_is_paid_only_if_an_ask_is_made(self):
        for troubles, spent in ((("down",) * 3, 0), (("down", "down", "lost"), 6), (("lost",) * 3, 10),
                                (("late",) * 3, 10), (("down", "crash"), 5)):
            house = begun(CLUB_PROGRAM, ann=ALL)
            house.go(troubles)
            self.assertEqual(house.spent, spent)

    def test_a_longer_known_fact_keeps_a_late_answer_out(self):
        """By rounds alone a house does not come to this; by a text it does."""
        for late, lines in (
            ("coming a ann 0 no", (("a.x", True, 1), ("m.z", True, 2))), ("coming a ann 1 no", None),
            ("coming m - 1 no", (("a.x", True, 1), ("m.z", True, 2))), ("coming m - 2 no", None),
            ("coming b ann 0 no", None),
        ):
            house = house_of(CLUB_PROGRAM, ann=ALL)
            text = f"time 0\nspent 0\nrows no\ncommon m m.z yes for 3\ncase ann a.x yes for 2\n{late}"
            house = read_house(house.outside, text)
            house.go(("lost",))
            if lines is None:
                self.assertEqual(house.page("ann").outcome, "halt")
            else:
                self.assertEqual(house.standing("ann").lines, lines)

    def test_one_longer_fact_of_the_source_is_enough(self):
        program = Program(CLUB.replace("  x yes", "  x yes\n  w yes").replace("a.x and", "a.x and a.w and"))
        for known, lines in (("a.w yes for 0; a.x yes for 2", (("a.x", True, 1),)),
                             ("a.x yes for 1", (("a.w", True, 0), ("a.x", True, 0))),
                             ("a.x yes for 0", (("a.w", True, 0), ("a.x", True, 0)))):
            outside = Outside(program, (("ann", ((True, True), YES, YES)),))
            house = read_house(outside, f"time 0\nspent 0\nrows no\ncase ann {known}\ncoming a ann 0 yes yes")
            house.go(("down",) * 3)
            self.assertEqual(house.standing("ann").lines, lines)

    def test_an_answer_takes_the_place_of_all_that_is_known_of_its_source(self):
        outside = Outside(CLUB_PROGRAM, (("ann", (YES, None, YES)),))
        house = read_house(outside, "time 0\nspent 0\nrows no\ncase ann b yes for 1; b.y yes for 0")
        house.go(("ok", "ok", "lost"))
        self.assertEqual(house.page("ann").known, Known((("b", False, 1),)))


class StepsTest(unittest.TestCase):
    def test_cases_settled_by_what_came_late_do_not_ask(self):
        house = begun(CLUB_PROGRAM, ann=(YES, YES, NO), bob=ALL[:2] + (NO,))
        house.go(("lost", "lost", "late", "lost", "lost"))
        self.assertEqual((house.go(), [page.time for page in house.pages]), ((), [2, 2]))

    def test_pages_of_the_third_and_of_the_fifth_step(self):
        house = begun(CLUB_PROGRAM, cat=(NO, YES, YES), ann=ALL)
        self.assertEqual(words(house.go(("lost", "lost", "lost", "late", "lost"))), ["lost"] * 3 + ["late", "lost"])
        house.go()
        self.assertEqual([(page.subject, page.time) for page in house.pages], [("cat", 2), ("ann", 2)])

    def test_what_the_outside_told_somebody_else_is_paid_there(self):
        house = begun(CLUB_PROGRAM, ann=ALL)
        house.outside.ask("m", "ann")
        self.assertEqual((house.spent, house.outside.paid, house.standing("ann")), (0, 4, Known()))
        house.go()
        self.assertEqual((house.spent, house.outside.paid), (10, 12))

    def test_the_round_price_of_another_program(self):
        house = begun(CLUB_PROGRAM, ann=ALL)
        house.revise(Program(CLUB.replace("round 2", "round 7")))
        house.go()
        self.assertEqual((house.spent, house.outside.paid), (15, 8))

    def test_no_page_of_an_open_subject(self):
        house = begun(CLUB_PROGRAM, ann=ALL)
        for value in (*any_values(), "ann", "bob"):
            self.assertTrue(same(raised(NoPage, house.page, value), value))
            self.assertTrue(same(raised(NoPage, house.rest, value), value))


class ImpossibleTest(unittest.TestCase):
    """By a text a house may come to a standing with which no world agrees."""

    def test_told_and_go_raise_as_plan_and_change_nothing(self):
        outside = Outside(CLUB_PROGRAM, (("ann", ALL), ("bob", ALL)))
        lines = ("case ann b no for 1; b.y yes for 1", "case bob -", "coming a bob 1 no")
        house = read_house(outside, "\n".join(["time 0", "spent 0", "rows no", *lines]))
        before = show_house(house)
        for call in (lambda: house.told("ann"), house.go, lambda: house.go(("down",))):
            self.assertEqual(raised(Impossible, call), Facts((("b", False), ("b.y", True))))
        self.assertEqual((show_house(house), outside.time, outside.paid, house.told("bob")), (before, 0, 0, 10))
        outside.tick()
        outside.tick()
        self.assertEqual(house.told("ann"), 10)


class LoanTest(unittest.TestCase):
    def test_three_cases(self):
        house = begun(LOAN_PROGRAM, eva=((20, "inside"), (3500, True), YES), tom=((12, "outside"), None, YES),
                      sam=((20, "outside"), (100, False), YES))
        told = sum(house.told(name) for name in house.cases)
        house.go()
        self.assertEqual((house.cases, house.spent <= told), ((), True))
        pages = {page.subject: page for page in house.pages}
        self.assertEqual([page.subject for page in house.pages], ["eva", "sam", "tom"])
        self.assertEqual([pages[name].outcome for name in ("eva", "sam", "tom")], ["grant", "look", "refuse"])
        self.assertEqual(pages["tom"].known.lines, (("person.age", 12, 2),))
        self.assertTrue(all(isinstance(page, Page) for page in house.pages))
        self.assertEqual(pages["sam"].known.lines, (("person.age", 20, 2), ("work.income", 100, 1)))


class AgainstTheWordsTest(unittest.TestCase):
    """Rounds with drawn troubles, held against a house by the words of the document (modelling.py)."""

    def test_drawn_rounds(self):
        draw = random.Random(42)
        seen = {word: 0 for word in ("ok", "lost", "late", "twice", "down", "crash", "none")}
        for _ in range(150):
            program = drawing.program(draw, 1, 4, common=0.4, most_fields=1)
            names = ("ann", "bob", "cat", "dan", "eva", "fay")[:draw.randint(1, 6)]
            worlds = drawing.truths(draw, program, names)
            rows = draw.random() < 0.3
            house, model = House(Outside(program, worlds), rows=rows), Model(program, worlds, rows)
            waiting = list(names)
            for _ in range(8):
                while waiting and draw.random() < 0.6:
                    house.begin(waiting[-1])
                    model.begin(waiting.pop())
                troubles = tuple(draw.choice(("ok", "ok", "lost", "late", "twice", "down",
                                              "crash")) for _ in range(draw.randint(0, 9)))
                found = house.go(troubles)
                self.assertTrue(same(found, model.go(troubles)))
                self.assertEqual(state_of(house), state_of(model))
                for _, _, word in found:
                    seen[word] += 1
        self.assertGreater(min(seen.values()), 40)


if __name__ == "__main__":
    unittest.main()
