import inspect
import unittest

from modelling import told_of
from onlyasked import book
from onlyasked.book import Page
from onlyasked.errors import BadWorlds, NoPage, NoSource, NoSubject, NothingToUndo, OtherSources, TooSoon
from onlyasked.house import House
from onlyasked.housetexts import show_house
from onlyasked.outside import Outside
from onlyasked.programs import Program
from onlyasked.settling import kept, possible
from onlyasked.standings import Known
from samples import BOTH, CLUB, LOAN, TWICE, any_values, raised, same

# Under these, who was decided to go is open again, or stands.
HARDER = CLUB.replace("decide go if", "decide halt if not a.x or not b.y\ndecide stop if not m.z\ndecide wait if")
OTHER = CLUB.replace("decide go", "decide halt if not a.x\ndecide go")
BOTH_PROGRAM, CLUB_PROGRAM = Program(BOTH), Program(CLUB)
HARDER_PROGRAM, OTHER_PROGRAM = Program(HARDER), Program(OTHER)
YES, NO = (True,), (False,)
ALL = (YES, YES, YES)
GO = (("a.x", True, 2), ("b.y", True, 1), ("m.z", True, 3))


def house_of(program, rows=False, **worlds):
    """A house in which all these subjects are begun."""
    house = House(Outside(program, tuple(worlds.items())), rows=rows)
    for subject in worlds:
        house.begin(subject)
    return house


def decided(program=CLUB_PROGRAM, rows=False, **worlds):
    """A house in which all these subjects are decided by one round."""
    house = house_of(program, rows, **worlds)
    house.go()
    return house


def everything(house):
    return (show_house(house), house.program.text, house.outside.program.text, house.outside.paid, house.outside.time,
            [house.outside.truth(name) for name in house.outside.subjects])


class PageTest(unittest.TestCase):
    def test_it_is_defined_here(self):
        self.assertIs(book.Page, Page)
        self.assertEqual(Page.__module__, "onlyasked.book")

    def test_it_keeps_what_it_is_made_with(self):
        known = Known(GO)
        page = Page("ann", 3, "go", None, known)
        self.assertEqual((page.subject, page.time, page.outcome, page.row), ("ann", 3, "go", None))
        self.assertIs(page.known, known)
        page = Page(known=known, row=0, outcome="halt", time=0, subject="bob")
        self.assertEqual(told_of(page), ("bob", 0, "halt", 0, known))
        self.assertEqual(list(inspect.signature(Page).parameters), ["subject", "time", "outcome", "row", "known"])

    def test_pages_that_say_the_same_are_equal(self):
        one = Page("ann", 3, "go", 1, Known(GO))
        self.assertTrue(one == Page("ann", 3, "go", 1, Known(GO)))
        for other in (Page("bob", 3, "go", 1, Known(GO)), Page("ann", 4, "go", 1, Known(GO)),
                      Page("ann", 3, "halt", 1, Known(GO)),
                      Page("ann", 3, "go", None, Known(GO)), Page("ann", 3, "go", 1, Known(GO[:1])), None, 1,
                      told_of(one)):
            self.assertFalse(one == other)


class ExampleTest(unittest.TestCase):
    def test_the_example(self):
        house = House(Outside(BOTH_PROGRAM, (("sam", (YES, YES)),)))
        house.begin("sam")
        house.go()
        told = house.revise(Program(BOTH.replace("a.x and", "not a.x and")))
        told = [told, house.cases, house.page("sam").outcome, len(house.pages), house.undo()]
        self.assertEqual(told, [((), ("sam",)), (), "refuse", 2, ((), ("sam",))])


class PagesTest(unittest.TestCase):
    def test_pages_are_a_tuple(self):
        house = decided(ann=ALL, bob=(NO, YES, YES))
        self.assertIsInstance(house.pages, tuple)
        self.assertEqual([page.subject for page in house.pages], ["ann", "bob"])
        self.assertEqual(told_of(house.page("ann")), ("ann", 1, "go", 0, Known(GO)))
        self.assertTrue(house.page("ann") == house.page("ann"))
        self.assertTrue(house.page("ann") == house.pages[0])

    def test_the_decision_is_the_last_page(self):
        house = decided(ann=ALL)
        house.outside.tick()
        house.again("ann")
        self.assertEqual(len(house.pages), 2)
        self.assertEqual(told_of(house.page("ann")), ("ann", 2, "go", 0, Known(GO).later()))
        self.assertEqual(told_of(house.pages[0]), ("ann", 1, "go", 0, Known(GO)))

    def test_the_facts_are_least_ones_that_settle(self):
        house = decided(ann=ALL, bob=(NO, None, YES), cat=(YES, NO, YES))
        for page in house.pages:
            least = kept(CLUB_PROGRAM, page.known.facts)
            self.assertEqual(len(page.known.lines), len(least))
            self.assertEqual(possible(CLUB_PROGRAM, page.known.facts), (page.outcome,))

    def test_the_house_forgets_what_it_knew_of_the_subject_alone(self):
        house = decided(ann=ALL, bob=(NO, YES, YES))
        self.assertEqual([line for line in show_house(house).split("\n") if line.startswith(("case", "common"))],
                         ["common m m.z yes for 3"])
        house.news("a", "bob")
        self.assertEqual(house.standing("bob").lines, (("m.z", True, 3),))

    def test_no_page_for_any_value(self):
        house = house_of(CLUB_PROGRAM, ann=ALL, bob=ALL)
        house.go(("ok", "lost"))
        self.assertEqual(house.cases, ("ann",))
        for call in (house.page, house.rest, house.again):
            for value in (*any_values(), "ann", "cat", ("bob",), ["bob"]):
                before = everything(house)
                self.assertTrue(same(raised(NoPage, call, value), value))
                self.assertEqual(everything(house), before)


class RestTest(unittest.TestCase):
    def test_lives_are_counted_on(self):
        house = decided(ann=ALL)
        page = house.page("ann")
        for lines in (GO, (("a.x", True, 1), ("b.y", True, 0), ("m.z", True, 2)), (("a.x", True, 0), ("m.z", True, 1)),
                      (("m.z", True, 0),), (), ()):
            self.assertEqual(house.rest("ann"), Known(lines))
            self.assertEqual(house.page("ann"), page)
            house.go()

    def test_facts_that_are_good_for_ever(self):
        program = Program(CLUB.replace(" stay 2", ""))
        house = decided(program, ann=ALL)
        for _ in range(6):
            house.outside.tick()
        self.assertEqual(house.rest("ann").lines, (("a.x", True, None),))


class AgainTest(unittest.TestCase):
    def test_a_rest_that_settles(self):
        house = decided(ann=ALL)
        self.assertIsNone(house.again("ann"))
        self.assertEqual((house.cases, len(house.pages)), ((), 2))
        house.outside.tick()
        house.again("ann")
        self.assertEqual(told_of(house.page("ann")), ("ann", 2, "go", 0, Known(GO).later()))
        self.assertEqual(house.rest("ann"), Known(GO).later())

    def test_a_rest_that_does_not(self):
        house = decided(ann=ALL)
        for _ in range(2):
            house.outside.tick()
        self.assertIsNone(house.again("ann"))
        self.assertEqual((house.cases, len(house.pages)), (("ann",), 1))
        self.assertEqual(house.standing("ann").lines, (("a.x", True, 0), ("m.z", True, 1)))
        self.assertEqual(raised(NoPage, house.page, "ann"), "ann")
        self.assertEqual(house.go(), (("a", "ann", "ok"), ("b", "ann", "ok")))
        self.assertEqual((len(house.pages), house.page("ann").time), (2, 4))

    def test_it_knows_what_the_house_knows_of_common_sources(self):
        """The page kept only a.x; m.z is known to the house, but b.y is forgotten."""
        house = decided(ann=(NO, YES, YES))
        for _ in range(3):
            house.outside.tick()
        self.assertEqual(house.rest("ann"), Known())
        house.again("ann")
        self.assertEqual(house.standing("ann").lines, (("m.z", True, 0),))

    def test_the_house_learns_nothing_from_rests(self):
        house = decided(ann=(YES, YES, NO), bob=(YES, NO, NO))
        self.assertEqual([page.known.lines for page in house.pages][0], (("m.z", False, 3),))
        house.again("ann")
        self.assertEqual((house.cases, house.page("ann").known.lines), ((), (("m.z", False, 3),)))


class ReviseTest(unittest.TestCase):
    def test_none_all_and_some_stand(self):
        house = decided(ann=ALL, bob=(NO, YES, YES), cat=(YES, NO, YES))
        for text, stands, opened in (
            (CLUB, ("ann", "bob", "cat"), ()), (OTHER, ("ann", "bob", "cat"), ()), (HARDER, ("bob", "cat"), ("ann",)),
            (CLUB.replace("decide go", "decide stop"), ("bob", "cat"), ("ann",)),
            (CLUB.replace("otherwise halt", "otherwise stop"), ("ann",), ("bob", "cat")),
            (CLUB.replace("b.y and ", ""), ("ann", "bob"), ("cat",)), (CLUB.replace("a.x and ", ""), ("ann", "cat"),
                ("bob",)),
            (CLUB.replace("decide go if a.x and b.y and m.z", "decide new if true"), (), ("ann", "bob", "cat")),
        ):
            with self.subTest(text):
                with house.trial() as held:
                    program = Program(text)
                    self.assertTrue(same(held.revise(program), (stands, opened)))
                    self.assertIs(held.program, program)
                    self.assertIs(held.outside.program, program)
                    self.assertEqual([told_of(page) for page in held.pages[:3]],
                                     [told_of(page) for page in house.pages])
                    for subject in stands:
                        self.assertEqual(told_of(held.page(subject)), told_of(house.page(subject)))

    def test_what_is_opened_knows_its_rest(self):
        house = decided(bob=(NO, YES, YES))
        house.outside.tick()
        self.assertEqual(house.revise(Program(CLUB.replace("a.x and ", ""))), ((), ("bob",)))
        self.assertEqual((house.cases, house.standing("bob").lines), (("bob",), (("a.x", False, 1), ("m.z", True, 2))))
        self.assertEqual(house.go(), (("b", "bob", "ok"),))
        self.assertEqual(house.page("bob").outcome, "go")

    def test_cases_that_are_settled_are_decided_at_once(self):
        """Whom it opened, and whoever was open."""
        house = house_of(CLUB_PROGRAM, ann=ALL, bob=ALL)
        house.go(("ok", "lost"))
        self.assertEqual((house.cases, house.standing("ann").lines), (("ann",), (("a.x", True, 2), ("m.z", True, 3))))
        self.assertEqual(house.revise(Program(CLUB.replace("decide go if",
            "decide wait if a.x and not a.x or m.z\ndecide go if"))), ((), ("bob",)))
        self.assertEqual(house.cases, ())
        self.assertEqual([told_of(page)[:3] for page in house.pages],
                         [("bob", 1, "go"), ("ann", 1, "wait"), ("bob", 1, "wait")])

    def test_another_outcome_at_once(self):
        house = decided(ann=ALL)
        self.assertEqual(house.revise(HARDER_PROGRAM), ((), ("ann",)))
        self.assertEqual((house.cases, told_of(house.page("ann"))[2:4]), ((), ("wait", 2)))
        self.assertEqual(house.page("ann").known, Known(GO))

    def test_facts_that_are_gone_count_for_standing(self):
        house = decided(ann=ALL)
        for _ in range(5):
            house.outside.tick()
        self.assertEqual(house.rest("ann"), Known())
        self.assertEqual(house.revise(OTHER_PROGRAM), (("ann",), ()))
        self.assertEqual(house.revise(HARDER_PROGRAM), ((), ("ann",)))
        self.assertEqual((house.cases, house.standing("ann")), (("ann",), Known()))

    def test_facts_with_which_no_world_agrees_do_not_stand(self):
        house = decided(ann=ALL)
        for _ in range(5):
            house.outside.tick()
        house.outside.put("ann", (NO, YES, YES))
        self.assertEqual(house.revise(Program(CLUB.replace("decide", "given not a.x\ndecide"))), ((), ("ann",)))
        self.assertEqual(house.go(), ())
        self.assertEqual(house.page("ann").outcome, "halt")

    def test_rows_do_not_matter_for_standing(self):
        text = "round 1\nsource a price 1\n  x yes\ndecide go if a.x\notherwise halt"
        house = decided(Program(text), rows=True, ann=(YES,))
        self.assertEqual(house.revise(Program(text.replace("decide go", "decide halt if not a.x\ndecide go"))),
                         (("ann",), ()))
        self.assertEqual((house.page("ann").row, len(house.pages)), (0, 1))
        again = text.replace("decide go if a.x", "decide go if a.x and a.x\ndecide go if not a.x")
        self.assertEqual(house.revise(Program(again)), (("ann",), ()))

    def test_a_house_with_rows_opens_what_no_outcome_settles(self):
        house = decided(Program(TWICE), rows=True, ann=(YES, YES))
        self.assertEqual(house.page("ann").row, 0)
        self.assertEqual(house.revise(Program(TWICE.replace("go if a.x\n", "stop if a.x\n"))), (("ann",), ()))
        self.assertEqual(house.revise(Program(TWICE.replace("go if a.x and", "stop if a.x and"))), ((), ("ann",)))
        self.assertEqual((house.page("ann").outcome, house.page("ann").row), ("stop", 0))

    def test_other_sources(self):
        house = decided(ann=ALL)
        before = everything(house)
        for written in (("price 1", "price 2"), ("stay 2", "stay 3"), (" stay 2", ""), (" common", ""),
                        ("stay 1 maybe", "stay 1"),
                        ("stay 2\n", "stay 2 common\n"), ("  x yes", "  x yes\n  w yes"), ("source m", "source c"),
                        ("  z yes", "  z lo hi")):
            text = CLUB.replace(*written).replace("m.z", "c.z") if written[1] == "source c" else CLUB.replace(*written)
            text = text.replace("and m.z", "and m.z = lo") if "lo hi" in text else text
            self.assertIsNone(raised(OtherSources, house.revise, Program(text)))
        self.assertIsNone(raised(OtherSources, house.revise, BOTH_PROGRAM))
        self.assertIsNone(raised(OtherSources, house.revise, Program(LOAN)))
        self.assertEqual(everything(house), before)

    def test_other_sources_come_ahead_of_bad_worlds(self):
        house = decided(ann=ALL)
        text = CLUB.replace("decide", "given not a.x\ndecide")
        self.assertEqual(raised(BadWorlds, house.revise, Program(text)), ("ann",))
        self.assertIsNone(raised(OtherSources, house.revise, Program(text.replace("price 1", "price 2"))))

    def test_bad_worlds(self):
        house = House(Outside(CLUB_PROGRAM,
                              (("dan", (NO, YES, YES)), ("ann", ALL), ("bob", (NO, None, YES)), ("cat", ALL))))
        house.begin("bob")
        house.go()
        before = everything(house)
        for given, subjects in (("a.x", ("bob", "dan")), ("not a.x", ("ann", "cat")), ("there b", ("bob",)),
                                ("not m.z", ("ann", "bob", "cat", "dan"))):
            self.assertTrue(same(raised(BadWorlds,
                                        house.revise, Program(CLUB.replace("decide", f"given {given}\ndecide"))),
                                        subjects))
        self.assertEqual(everything(house), before)
        self.assertIsNone(raised(NothingToUndo, house.undo))
        for _ in range(2):
            house.outside.tick()
        house.outside.put("bob", (NO, YES, YES))
        house.revise(Program(CLUB.replace("decide", "given there b\ndecide")))
        self.assertEqual(house.outside.truth("bob"), (NO, YES, YES))


class NewsTest(unittest.TestCase):
    def test_a_decision_whose_rest_had_some_of_it(self):
        house = decided(ann=ALL, bob=ALL)
        paid = house.outside.paid
        self.assertTrue(same(house.news("a", "ann"), ("ann",)))
        self.assertEqual((house.cases, house.standing("ann").lines), (("ann",), (("b.y", True, 1), ("m.z", True, 3))))
        self.assertEqual(house.rest("bob"), Known(GO))
        self.assertEqual((house.outside.paid, house.outside.truth("ann"), house.outside.time), (paid, ALL, 1))
        self.assertEqual(house.go(), (("a", "ann", "ok"),))

    def test_the_outside_is_not_touched(self):
        house = decided(ann=ALL)
        house.news("a", "ann")
        self.assertEqual(raised(TooSoon, house.outside.put, "ann", (NO, YES, YES)), "a")

    def test_a_decision_whose_rest_had_none_of_it(self):
        house = decided(ann=(NO, YES, YES), bob=(NO, YES, YES))
        before = everything(house)
        self.assertEqual(house.news("b", "ann"), ())
        self.assertEqual(everything(house), before)
        for _ in range(3):
            house.outside.tick()
        self.assertEqual(house.news("a", "ann"), ())
        self.assertEqual(house.cases, ())

    def test_an_open_case(self):
        house = house_of(CLUB_PROGRAM, ann=ALL, bob=ALL)
        house.go(("ok", "lost", "ok", "ok", "lost"))
        self.assertEqual(house.news("a", "ann"), ())
        self.assertEqual((house.standing("ann").lines, house.standing("bob").lines), (GO[2:], GO[:1] + GO[2:]))
        self.assertEqual(house.news("b", "bob"), ())
        self.assertEqual(house.standing("bob").lines, GO[:1] + GO[2:])

    def test_a_common_source(self):
        """By whomever: for all subjects, and the house does not know it any more."""
        for subject in ("ann", "bob", "cat", "dan"):
            house = House(Outside(CLUB_PROGRAM, (("ann", ALL), ("bob", (NO, YES, YES)), ("cat", ALL), ("dan", ALL))))
            for name in ("ann", "bob", "cat"):
                house.begin(name)
            house.go(("ok",) * 5 + ("ok", "lost"))
            self.assertEqual(house.cases, ("cat",))
            self.assertTrue(same(house.news("m", subject), ("ann",)))
            self.assertEqual(house.cases, ("ann", "cat"))
            self.assertEqual((house.standing("ann").lines, house.standing("cat").lines), (GO[:2], GO[:1]))
            self.assertEqual(house.rest("bob").lines, (("a.x", False, 2),))
            house.begin("dan")
            self.assertEqual(house.standing("dan"), Known())
            self.assertNotIn("common", show_house(house))

    def test_what_is_on_its_way(self):
        house = house_of(CLUB_PROGRAM, ann=ALL, bob=ALL)
        house.go(("late", "late", "late", "late", "late"))
        late = ["coming a ann 1 yes", "coming b ann 0 yes", "coming m - 2 yes", "coming a bob 1 yes",
                "coming b bob 0 yes"]
        for source, subject, left in (("a", "ann", [1, 2, 3, 4]), ("b", "bob", [0, 1, 2, 3]),
                                      ("m", "ann", [0, 1, 3, 4]), ("m", "bob", [0, 1, 3, 4])):
            with house.trial() as held:
                self.assertEqual(held.news(source, subject), ())
                self.assertEqual([line for line in show_house(held).split("\n") if line.startswith("coming")],
                                 [late[at] for at in left])

    def test_what_is_on_its_way_for_a_decided_subject(self):
        house = house_of(CLUB_PROGRAM, ann=(NO, YES, YES))
        house.go(("ok", "late", "lost"))
        self.assertEqual(house.news("b", "ann"), ())
        self.assertNotIn("coming", show_house(house))

    def test_another_rest_may_settle_it_at_once(self):
        """The rest had m.z and nothing else; what is known of common sources is forgotten with it."""
        text = CLUB.replace("decide go", "decide halt if not b.y and m.z\ndecide go")
        house = decided(Program(text), ann=(YES, YES, NO))
        self.assertEqual(house.page("ann").known.lines, (("m.z", False, 3),))
        self.assertEqual(house.news("m", "ann"), ("ann",))
        self.assertEqual((house.cases, house.standing("ann")), (("ann",), Known()))

    def test_news_of_an_answer_that_the_house_settles_without(self):
        """m.z came behind the page: with it, the rest is not needed any more."""
        house = house_of(CLUB_PROGRAM, ann=(NO, YES, NO), bob=(YES, YES, NO))
        house.go(("ok", "lost", "down", "lost", "lost"))
        self.assertEqual((house.cases, house.page("ann").known.lines), (("bob",), (("a.x", False, 2),)))
        house.go()
        self.assertEqual(house.cases, ())
        self.assertEqual(house.news("a", "ann"), ("ann",))
        self.assertEqual((house.cases, told_of(house.page("ann"))), ((),
            ("ann", 2, "halt", 1, Known((("m.z", False, 3),)))))

    def test_no_source_then_no_subject(self):
        house = decided(ann=ALL)
        before = everything(house)
        for value in (*any_values(), "x", "a.x", "ann", ("a",)):
            for subject in ("ann", "bob", value):
                if not same(value, "a"):
                    self.assertTrue(same(raised(NoSource, house.news, value, subject), value))
            if value != "ann":
                for source in ("a", "m"):
                    self.assertTrue(same(raised(NoSubject, house.news, source, value), value))
        self.assertEqual(everything(house), before)


class UndoTest(unittest.TestCase):
    NEVER = CLUB.replace("decide go if a.x and b.y", "decide wait if not a.x and b.y\ndecide stop if a.x and b.y")

    def opened(self, **worlds):
        """A house whose decisions to go are open again, and not decided at once (their facts are gone)."""
        house = decided(**(worlds or {"ann": ALL}))
        for _ in range(2):
            house.outside.tick()
        house.revise(Program(self.NEVER))
        return house

    def test_nothing_to_undo(self):
        house = decided(ann=ALL)
        before = everything(house)
        self.assertIsNone(raised(NothingToUndo, house.undo))
        self.assertEqual(everything(house), before)
        house.revise(CLUB_PROGRAM)
        house.undo()
        self.assertIsNone(raised(NothingToUndo, house.undo))

    def test_what_is_open_since_is_decided_again(self):
        house = self.opened()
        self.assertEqual((house.cases, len(house.pages)), (("ann",), 1))
        self.assertTrue(same(house.undo(), (("ann",), ())))
        self.assertEqual((house.cases, len(house.pages), house.page("ann").time), ((), 1, 1))
        self.assertEqual(house.rest("ann").lines, (("a.x", True, 0), ("m.z", True, 1)))
        self.assertIs(house.program, CLUB_PROGRAM)
        self.assertIs(house.outside.program, CLUB_PROGRAM)

    def test_what_they_know_is_forgotten(self):
        house = self.opened()
        house.go(("ok", "lost"))
        self.assertEqual(house.standing("ann").lines, (("a.x", True, 2), ("m.z", True, 0)))
        self.assertEqual(house.undo(), (("ann",), ()))
        self.assertEqual((house.rest("ann").lines, len(house.pages)), ((("m.z", True, 0),), 1))

    def test_what_was_decided_since_is_held_against_the_program(self):
        house = self.opened()
        house.go()
        self.assertEqual((house.cases, house.page("ann").outcome, len(house.pages)), ((), "stop", 2))
        self.assertEqual(house.undo(), ((), ("ann",)))
        self.assertEqual((house.page("ann").outcome, len(house.pages)), ("go", 3))
        house = self.opened(ann=(YES, NO, YES), bob=ALL)
        house.go()
        self.assertEqual(house.undo(), (("ann",), ("bob",)))

    def test_what_was_decided_at_once(self):
        house = decided(ann=ALL)
        house.revise(HARDER_PROGRAM)
        self.assertEqual((house.cases, house.page("ann").outcome), ((), "wait"))
        self.assertEqual(house.undo(), ((), ("ann",)))
        self.assertEqual([page.outcome for page in house.pages], ["go", "wait", "go"])

    def test_news_of_a_fact_that_is_still_good(self):
        for source, again in (("a", False), ("m", False), ("b", True)):
            house = self.opened()
            self.assertEqual(house.news(source, "ann"), ())
            self.assertEqual(house.undo(), ((("ann",), ()) if again else ((), ())))
            self.assertEqual(house.cases, () if again else ("ann",))

    def test_news_of_a_fact_that_was_not_good_any_more(self):
        for ticks, again in ((0, False), (1, True)):
            house = self.opened()
            for _ in range(ticks):
                house.outside.tick()
            house.news("a", "ann")
            self.assertEqual(house.undo(), ((("ann",), ()) if again else ((), ())))

    def test_news_for_somebody_else(self):
        for source, subject, stands in (("a", "bob", ("ann",)), ("b", "bob", ("ann", "bob")), ("m", "cat", ()),
                                        ("a", "cat", ("ann", "bob"))):
            house = self.opened(ann=ALL, bob=ALL, cat=ALL)
            house.news("b", "cat")
            house.news("a", "cat")
            self.assertEqual(house.cases, ("ann", "bob", "cat"))
            house.news(source, subject)
            self.assertEqual(house.undo(), (stands, ()))

    def test_news_of_an_answer_that_came_since(self):
        """a was asked anew, but its fact on the page was still good, too."""
        house = decided(Program(CLUB.replace(" stay 2", "")), ann=ALL)
        for _ in range(4):
            house.outside.tick()
        house.revise(Program(self.NEVER.replace(" stay 2", "")))
        self.assertEqual((house.cases, house.standing("ann").lines), (("ann",), (("a.x", True, None),)))
        house.news("a", "ann")
        self.assertEqual(house.undo(), ((), ()))

    def test_who_was_open_before_stays_open(self):
        house = House(Outside(CLUB_PROGRAM, (("ann", ALL), ("bob", ALL))))
        house.begin("ann")
        house.go()
        for _ in range(2):
            house.outside.tick()
        house.begin("bob")
        house.revise(Program(self.NEVER))
        self.assertEqual(house.cases, ("ann", "bob"))
        self.assertEqual(house.undo(), (("ann",), ()))
        self.assertEqual(house.cases, ("bob",))

    def test_undo_behind_undo(self):
        house = decided(ann=ALL, bob=(NO, YES, YES), cat=(YES, None, YES))
        for _ in range(5):
            house.outside.tick()
        first, second = Program(self.NEVER), Program(CLUB.replace("otherwise halt", "otherwise other"))
        self.assertEqual(house.revise(first), (("cat",), ("ann", "bob")))
        self.assertEqual(house.revise(second), ((), ("cat",)))
        self.assertEqual(house.cases, ("ann", "bob", "cat"))
        self.assertEqual(house.undo(), (("cat",), ()))
        self.assertIs(house.program, first)
        self.assertEqual(house.cases, ("ann", "bob"))
        self.assertEqual(house.undo(), (("ann", "bob", "cat"), ()))
        self.assertIs(house.program, CLUB_PROGRAM)
        self.assertEqual((house.cases, len(house.pages)), ((), 3))
        self.assertIsNone(raised(NothingToUndo, house.undo))

    def test_an_opening_by_undo_is_not_one_by_revise(self):
        house = decided(ann=ALL)
        house.revise(OTHER_PROGRAM)
        house.revise(HARDER_PROGRAM)
        self.assertEqual((house.page("ann").outcome, len(house.pages)), ("wait", 2))
        for _ in range(5):
            house.outside.tick()
        self.assertEqual(house.undo(), ((), ("ann",)))
        self.assertEqual(house.cases, ("ann",))
        self.assertEqual(house.undo(), ((), ()))
        self.assertEqual((house.cases, len(house.pages)), (("ann",), 2))

    def test_undo_opens_and_decides_who_is_settled(self):
        house = house_of(CLUB_PROGRAM, ann=ALL, bob=ALL)
        house.revise(HARDER_PROGRAM)
        house.go(("ok", "lost"))
        self.assertEqual((house.cases, house.page("bob").outcome), (("ann",), "wait"))
        self.assertEqual(house.undo(), ((), ("bob",)))
        self.assertEqual((house.cases, house.page("bob").outcome), (("ann",), "go"))

    def test_bad_worlds(self):
        given = Program(CLUB.replace("decide", "given a.x or not b.y\ndecide"))
        house = decided(given, ann=ALL, bob=ALL)
        house.revise(CLUB_PROGRAM)
        for _ in range(4):
            house.outside.tick()
        house.outside.put("bob", (NO, YES, YES))
        house.outside.put("ann", (NO, YES, YES))
        before = everything(house)
        self.assertTrue(same(raised(BadWorlds, house.undo), ("ann", "bob")))
        self.assertEqual(everything(house), before)
        house.outside.put("ann", (NO, NO, YES))
        house.outside.put("bob", (NO, None, YES))
        self.assertEqual(house.undo(), (("ann", "bob"), ()))

    def test_a_program_of_the_same_text(self):
        house = decided(ann=ALL)
        other = Program(CLUB)
        self.assertEqual(house.revise(other), (("ann",), ()))
        self.assertIs(house.program, other)
        self.assertEqual(house.undo(), (("ann",), ()))
        self.assertIs(house.program, CLUB_PROGRAM)


class TrialTest(unittest.TestCase):
    def busy(self):
        """A house with an open case, decisions, answers on their way and a revise."""
        house = house_of(CLUB_PROGRAM, ann=ALL, bob=(NO, YES, YES), cat=ALL)
        house.go(("ok", "ok", "ok", "ok", "late", "ok", "late"))
        house.revise(Program(CLUB.replace("otherwise halt", "otherwise other")))
        return house

    def test_nothing_that_is_done_with_it_changes_the_house(self):
        house = self.busy()
        before = everything(house)
        with house.trial() as held:
            self.assertIsInstance(held, House)
            self.assertIsNot(held, house)
            self.assertIsNot(held.outside, house.outside)
            self.assertEqual(everything(held), before)
            self.everything_done(held)
            self.assertNotEqual(everything(held), before)
        self.assertEqual(everything(house), before)

    def everything_done(self, held):
        held.again("ann")
        held.news("m", "ann")
        held.go(("crash",))
        held.undo()
        held.revise(HARDER_PROGRAM)
        held.outside.tick()
        held.outside.release("a", "bob")
        held.outside.put("bob", (YES, YES, YES))
        held.news("a", "bob")
        held.go()
        held.outside.put_common("m", YES)

    def test_the_house_goes_on_while_a_trial_is_held(self):
        house = self.busy()
        with house.trial() as held:
            before = everything(held)
            self.everything_done(house)
            self.assertEqual(everything(held), before)

    def test_a_new_one_each_time(self):
        house = self.busy()
        trial = house.trial()
        with trial as held:
            held.go()
            with trial as other:
                self.assertIsNot(other, held)
                self.assertEqual(everything(other), everything(house))
        house.go()
        with trial as held:
            self.assertEqual(everything(held), everything(house))
        self.assertEqual(held.cases, house.cases)

    def test_errors_come_through(self):
        house = self.busy()
        before = everything(house)
        with self.assertRaises(NoPage):
            with house.trial() as held:
                held.again("bob")
                held.page("nobody")
        self.assertEqual(everything(house), before)

    def test_tried(self):
        house = self.busy()
        before = everything(house)
        kept_ones = []

        def look(held):
            kept_ones.append(held)
            self.assertEqual(everything(held), before)
            self.everything_done(held)
            return held.spent

        told = house.tried(look)
        self.assertEqual(told, kept_ones[0].spent)
        self.assertEqual(everything(house), before)
        kept_ones[0].go()
        self.assertEqual(everything(house), before)
        with self.assertRaises(NothingToUndo):
            house.tried(lambda held: (held.undo(), held.undo()))
        self.assertEqual(everything(house), before)

    def test_a_trial_goes_as_the_house_does(self):
        house = self.busy()
        with house.trial() as held:
            self.everything_done(held)
            self.everything_done(house)
            self.assertEqual(everything(held), everything(house))

    def test_a_house_with_rows(self):
        house = house_of(Program(TWICE), rows=True, ann=(YES, NO))
        with house.trial() as held:
            self.assertEqual(held.told("ann"), 7)
            held.go()
            self.assertEqual(held.page("ann").row, 1)


if __name__ == "__main__":
    unittest.main()
