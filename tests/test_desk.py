import inspect
import random
import unittest

import drawing
from onlyasked import desk as module
from onlyasked.desk import Desk
from onlyasked.errors import (
    AskError, BadLine, BadProgram, BadText, BadWorld, BadWorlds, Begun, Doubled, NoCase, NoPage, NoSource,
    NoSubject, NothingToUndo, OtherSources, TooSoon, Unnamed,
)
from onlyasked.house import House
from onlyasked.housetexts import show_house
from onlyasked.outside import Outside
from onlyasked.plans import plan
from onlyasked.programs import Program
from onlyasked.texts import show_known
from samples import BOTH, LOAN, TWICE, any_values, raised, same

CLUB = ("round 2\nsource a price 1 stay 2\n  x yes\n  n -5..9\nsource b price 3 stay 1 maybe\n  y yes\n"
        "source m price 4 stay 3 common\n  w lo hi\ndecide go if a.x and b.y and m.w = lo\notherwise halt")
WORLDS = "ann yes 4 / yes / lo\nbob yes -5 / none / lo\ncat no 0 / yes / lo"
PAIRS = (("ann", ((True, 4), (True,), ("lo",))), ("bob", ((True, -5), None, ("lo",))),
         ("cat", ((False, 0), (True,), ("lo",))))
OTHER = CLUB.replace("decide go", "decide stop")


def told(text):
    return text.replace("\n", " | ")


def club():
    return Desk(CLUB, WORLDS)


def state(desk):
    return (desk.say("house"), desk.say("paid"), desk.say("cases"), desk.say("table"))


def said(desk, *lines):
    return [desk.say(line) for line in lines]


class NamesTest(unittest.TestCase):
    def test_it_is_defined_here_with_its_methods(self):
        self.assertIs(module.Desk, Desk)
        self.assertEqual(Desk.__module__, "onlyasked.desk")
        for name, parameters in (("__init__", ["self", "program_text", "worlds_text"]), ("say", ["self", "line"])):
            self.assertIn(name, vars(Desk))
            self.assertEqual(list(inspect.signature(vars(Desk)[name]).parameters), parameters)

    def test_arguments_by_name(self):
        self.assertEqual(Desk(worlds_text=WORLDS, program_text=CLUB).say(line="time"), "0")


class ExampleTest(unittest.TestCase):
    def test_the_example(self):
        desk = Desk(BOTH, "sam yes / yes")
        self.assertEqual(said(desk, "begin sam", "told sam", "go", "page sam", "spent"),
                         ["done", "3", "ok ok", "sam 1 grant 0 a.x yes for 0; b.x yes for 0", "3"])


class NewDeskTest(unittest.TestCase):
    def test_raises_as_program(self):
        for value in any_values():
            self.assertEqual(raised(BadProgram, Desk, value, WORLDS), 0)
            self.assertEqual(raised(BadProgram, Desk, value, value), 0)
        self.assertEqual(raised(BadProgram, Desk, CLUB + "\n", WORLDS), 10)
        self.assertEqual(raised(BadProgram, Desk, told(CLUB), WORLDS), 0)
        self.assertEqual(raised(Doubled, Desk, CLUB.replace("source b", "source a"), None), 4)
        self.assertEqual(raised(Unnamed, Desk, CLUB.replace("= lo", "= low"), ""), 8)

    def test_worlds_that_are_no_string(self):
        for value in any_values():
            self.assertTrue(same(raised(BadText, Desk, CLUB, value), 0))
        self.assertEqual(raised(BadText, Desk, CLUB, WORLDS.split("\n")), 0)
        self.assertEqual(raised(BadText, Desk, CLUB, ""), 0)

    def test_worlds(self):
        desk = club()
        outside = Outside(Program(CLUB), PAIRS)
        self.assertEqual(desk.say("house"), told(show_house(House(outside))))
        for name, _ in PAIRS:
            desk.say(f"begin {name}")
        self.assertEqual(desk.say("cases"), "ann bob cat")
        desk.say("go")
        self.assertEqual([desk.say(f"page {name}").split(" ")[2] for name, _ in PAIRS], ["go", "halt", "halt"])

    def test_one_to_six_subjects(self):
        lines = [f"{name} yes 4 / yes / lo" for name in ("a", "b", "c", "d", "e", "f", "g")]
        for many in range(1, 7):
            self.assertEqual(Desk(CLUB, "\n".join(lines[:many])).say("time"), "0")
        self.assertEqual(raised(BadText, Desk, CLUB, "\n".join(lines)), 6)

    def test_lines_that_are_not_so_written(self):
        right = "bob yes 4 / yes / lo"
        for line in (
            "", " ", "bob", "bob ", "bob yes 4 / yes", "bob yes 4 / yes / lo / lo", "bob yes 4 / yes / ",
            "bob yes 4 / yes /", "bob / yes / lo", " bob yes 4 / yes / lo", "bob yes 4 / yes / lo ",
            "bob  yes 4 / yes / lo", "bob yes 4  / yes / lo", "bob yes 04 / yes / lo", "bob yes -0 / yes / lo",
            "bob yes 1000000000000 / yes / lo", "bob yes 4/yes/lo", "Bob yes 4 / yes / lo",
            "bob1 yes 4 / yes / lo", f"{'b' * 13} yes 4 / yes / lo", "no yes 4 / yes / lo", "round yes 4 / yes / lo",
            "- yes 4 / yes / lo", "bob yes 4 / yes / far", "bob yes 10 / yes / lo", "bob yes 4 / 5 / lo",
            "bob yes / yes / lo", "bob yes 4 4 / yes / lo", "bob none / yes / lo", "bob yes 4 / none none / lo",
            "bob yes 4 / yes / none", "bob 4 yes / yes / lo", "bob true 4 / yes / lo", "bob yes 4 / yes / hi",
            "ann yes 4 / yes / lo", "abe yes 4 / yes / lo",
        ):
            with self.subTest(line):
                first, last = "ann yes 4 / yes / lo", "cat yes 4 / yes / lo"
                self.assertEqual(raised(BadText, Desk, CLUB, "\n".join([first, line])), 1)
                self.assertEqual(raised(BadText, Desk, CLUB, "\n".join([first, line, last, ""])), 1)
                if line not in ("bob yes 4 / yes / hi", "ann yes 4 / yes / lo", "abe yes 4 / yes / lo"):
                    self.assertEqual(raised(BadText, Desk, CLUB, "\n".join([line, last])), 0)
                self.assertIsInstance(Desk(CLUB, "\n".join([first, right, last])), Desk)

    def test_givens(self):
        text = LOAN
        self.assertEqual(Desk(text, "eva 20 inside / 3500 yes / yes\ntom 12 outside / none / yes").say("time"), "0")
        self.assertEqual(raised(BadText, Desk, text, "eva 20 inside / 3500 yes / yes\ntom 12 outside / 5 no / yes"), 1)
        self.assertEqual(raised(BadText, Desk, text, "eva 13 inside / 3500 yes / yes\ntom 12 outside / none / yes"), 0)


class LinesTest(unittest.TestCase):
    def test_begin_told_asks_standing(self):
        desk = club()
        self.assertEqual(said(desk, "begin bob", "told bob", "asks bob", "standing bob", "cases"),
                         ["done", "10", "a b m", "-", "bob"])
        desk.say("go ok lost")
        self.assertEqual(said(desk, "standing bob", "asks bob", "told bob"),
                         ["a.n -5 for 2; a.x yes for 2; m.w lo for 3", "b", "5"])

    def test_a_case_of_values_of_all_kinds(self):
        desk = Desk(CLUB.replace("a.x and", "a.x and a.n > 3 and"), WORLDS)
        said(desk, "begin ann", "go down ok down")
        self.assertEqual(desk.say("standing ann"), "b yes for 1; b.y yes for 1")
        said(desk, "go ok down")
        self.assertEqual(desk.say("standing ann"), "a.n 4 for 2; a.x yes for 2; b yes for 0; b.y yes for 0")

    def test_go(self):
        desk = club()
        self.assertEqual(said(desk, "go", "time", "spent", "paid"), ["-", "1", "0", "0"])
        said(desk, "begin ann", "begin bob")
        self.assertEqual(said(desk, "go twice late down crash ok", "time", "spent", "paid"),
                         ["twice late down crash none", "2", "7", "5"])
        self.assertEqual(desk.say("go lost lost lost lost lost down down"), "lost lost lost lost lost")

    def test_pages_rests_and_again(self):
        desk = club()
        said(desk, "begin ann", "begin cat", "go")
        self.assertEqual(said(desk, "page ann", "rest ann", "page cat", "rest cat"),
                         ["ann 1 go 0 a.x yes for 2; b.y yes for 1; m.w lo for 3",
                          "a.x yes for 2; b.y yes for 1; m.w lo for 3", "cat 1 halt 1 a.x no for 2", "a.x no for 2"])
        self.assertEqual(said(desk, "tick", "time", "rest cat", "again cat", "page cat"),
                         ["done", "2", "a.x no for 1", "done", "cat 2 halt 1 a.x no for 1"])
        said(desk, "tick", "tick")
        self.assertEqual(said(desk, "rest cat", "again cat", "cases"), ["-", "done", "cat"])

    def test_a_page_without_a_row(self):
        desk = Desk(TWICE, "sam yes / no")
        said(desk, "begin sam", "go")
        self.assertEqual(desk.say("page sam"), "sam 1 go - a.x yes for ever")

    def test_news(self):
        desk = club()
        said(desk, "begin ann", "begin bob", "begin cat", "go")
        self.assertEqual(said(desk, "news b cat", "news m cat", "cases", "news b bob"), ["-", "ann", "ann", "bob"])
        desk = club()
        said(desk, "begin ann", "begin bob", "go")
        desk.say("put bob yes -5 / none / lo")
        self.assertEqual(desk.say("news a ann"), "ann")

    def test_revise_and_undo(self):
        desk = club()
        said(desk, "begin ann", "begin bob", "begin cat", "go")
        self.assertEqual(desk.say(f"revise {told(OTHER)}"), "bob cat / ann")
        self.assertEqual(said(desk, "page ann", "undo", "page ann"),
                         ["ann 1 stop 0 a.x yes for 2; b.y yes for 1; m.w lo for 3", "bob cat / ann",
                          "ann 1 go 0 a.x yes for 2; b.y yes for 1; m.w lo for 3"])
        self.assertEqual(desk.say(f"revise {told(CLUB)}"), "ann bob cat / -")
        new = CLUB.replace("decide go if a.x and b.y and m.w = lo", "decide new if true")
        self.assertEqual(desk.say(f"revise {told(new)}"), "- / ann bob cat")
        self.assertEqual(club().say(f"revise {told(OTHER)}"), "- / -")

    def test_the_program_of_revise(self):
        desk = club()
        before = state(desk)
        self.assertEqual(raised(BadProgram, desk.say, "revise "), 0)
        self.assertEqual(raised(BadProgram, desk.say, "revise  "), 0)
        self.assertEqual(raised(BadProgram, desk.say, f"revise  {told(CLUB)}"), 0)
        self.assertEqual(raised(BadProgram, desk.say, f"revise {told(CLUB)} "), 9)
        self.assertEqual(raised(BadProgram, desk.say, f"revise {told(CLUB)} | "), 10)
        self.assertEqual(raised(BadProgram, desk.say, f"revise {told(CLUB).replace(' | ', '|')}"), 0)
        self.assertEqual(raised(Unnamed, desk.say, f"revise {told(CLUB.replace('a.x and', 'a.z and'))}"), 8)
        self.assertEqual(raised(BadProgram, desk.say, "revise undo"), 0)
        self.assertEqual(state(desk), before)

    def test_put_release_paid(self):
        desk = club()
        said(desk, "begin ann", "go")
        self.assertEqual(raised(TooSoon, desk.say, "put ann no 4 / yes / lo"), "a")
        self.assertEqual(said(desk, "release a ann", "put ann no 4 / yes / lo", "paid", "news a ann"),
                         ["done", "done", "8", "ann"])
        said(desk, "go")
        self.assertEqual(desk.say("page ann"), "ann 2 halt 1 a.x no for 2")
        self.assertEqual(said(desk, "put bob yes 9 / none / lo", "begin bob", "paid", "spent"),
                         ["done", "done", "9", "13"])

    def test_house(self):
        desk = club()
        said(desk, "begin ann", "begin bob", "go late ok ok", f"revise {told(OTHER)}")
        self.assertEqual(desk.say("house"), " | ".join([
            "time 1", "spent 14", "rows no", "common m m.w lo for 3", "case ann b yes for 1; b.y yes for 1",
            "coming a ann 1 yes 4", "page bob 1 halt 1 b no for 1", "rest bob b no for 1",
            "revised -", *[f"  {line}" for line in CLUB.split("\n")]]))

    def test_table(self):
        self.assertEqual(Desk(BOTH, "sam yes / yes").say("table"), "a.x(no: refuse, yes: b.x(no: refuse, yes: grant))")
        self.assertEqual(club().say("table"),
                         "a.x(no: halt, yes: b(no: halt, yes: b.y(no: halt, yes: m.w(lo: go, hi: halt))))")
        text = ("round 0\nsource a price 1\n  n -9..9\n  w lo mid hi\ngiven a.n > -5\n"
                "decide go if a.n > 0 and a.w in (lo, hi)\notherwise halt")
        self.assertEqual(Desk(text, "sam 0 lo").say("table"),
                         "a.n(-9..-5: none, -4..0: halt, 1..9: a.w(lo/hi: go, mid: halt))")
        self.assertEqual(Desk("round 0\nsource a price 1\n  n 1..1\notherwise halt", "sam 1").say("table"), "halt")
        desk = Desk(BOTH, "sam yes / yes")
        desk.say(f"revise {told(BOTH.replace('b.x', 'true'))}")
        self.assertEqual(desk.say("table"), "a.x(no: refuse, yes: grant)")

    def test_numbers(self):
        desk = club()
        for line in ("time", "spent", "paid"):
            self.assertTrue(same(desk.say(line), "0"))


class ErrorsTest(unittest.TestCase):
    def test_errors_of_the_methods(self):
        desk = club()
        said(desk, "begin ann", "begin cat", "go ok lost ok ok ok")
        before = state(desk)
        for line, error, value in (
            ("begin eve", NoSubject, "eve"), ("begin 5", NoSubject, "5"), ("begin /", NoSubject, "/"),
            ("begin ann", Begun, "ann"), ("begin cat", Begun, "cat"), ("again ann", NoPage, "ann"),
            ("again bob", NoPage, "bob"), ("again -", NoPage, "-"), ("told bob", NoCase, "bob"),
            ("told cat", NoCase, "cat"), ("asks cat", NoCase, "cat"), ("asks begin", NoCase, "begin"),
            ("standing cat", NoCase, "cat"), ("rest ann", NoPage, "ann"), ("page ann", NoPage, "ann"),
            ("page none", NoPage, "none"), ("news x ann", NoSource, "x"), ("news x eve", NoSource, "x"),
            ("news a eve", NoSubject, "eve"), ("news a.x ann", NoSource, "a.x"), ("release x ann", NoSource, "x"),
            ("release a eve", NoSubject, "eve"), ("release ann a", NoSource, "ann"),
            ("undo", NothingToUndo, None), ("put eve yes 4 / yes / lo", NoSubject, "eve"),
            ("put / yes 4 / yes / lo", NoSubject, "/"), ("put bob yes 10 / yes / lo", BadWorld,
                ((True, 10), (True,), ("lo",))),
            ("put bob yes 4 / yes / hi", BadWorld, ((True, 4), (True,), ("hi",))),
            ("put bob none / none / none", BadWorld, (None, None, None)),
            ("put bob 1 2 3 / none none / 0", BadWorld, ((1, 2, 3), ("none", "none"), (0,))),
            ("put ann no 4 / yes / lo", TooSoon, "a"), (f"revise {told(BOTH)}", OtherSources, None),
            (f"revise {told(CLUB.replace('price 4', 'price 5'))}", OtherSources, None),
            (f"revise {told(CLUB.replace('decide', 'given b.y' + chr(10) + 'decide'))}", BadWorlds, ("bob",)),
            ("begin a\nb", NoSubject, "a\nb"), ("begin \t", NoSubject, "\t"),
        ):
            with self.subTest(line):
                self.assertTrue(same(raised(error, desk.say, line), value))
        self.assertEqual(state(desk), before)

    def test_a_line_of_no_form_comes_first(self):
        desk = club()
        for line in ("begin eve eve", "put eve yes", "news x", "told", "go now", "undo it"):
            self.assertEqual(raised(BadLine, desk.say, line), line)

    def test_any_value(self):
        desk = club()
        before = state(desk)
        for value in (*any_values(), ["go"], ("go",), ("begin", "ann")):
            self.assertTrue(same(raised(BadLine, desk.say, value), value))
        self.assertEqual(state(desk), before)

    def test_lines_that_are_none_of_the_forms(self):
        desk = club()
        said(desk, "begin ann", "begin cat", "go ok lost ok ok ok")
        before = state(desk)
        right = ("begin bob", "again cat", "news a ann", "tick", "go", "go ok", "go lost crash", "told ann", "asks ann",
                 "standing ann", "rest cat", "page cat", "cases", "spent", "time", "paid", "undo",
                 "put bob yes 4 / none / lo", "release a ann", "house", "table")
        for line in right:
            words = line.split(" ")
            wrong = [line + " ", " " + line, line.replace(" ", "  ", 1), line.upper(), line.title(), line + "\t"]
            wrong += [line + " ann"] if words[0] != "put" else [line + " / lo", line[:-5], "put", "put bob", "put bob ",
                "put yes 4 / none", "put bob yes 4 / none /", "put bob yes 4 / / lo"]
            wrong += [" ".join(words[:-1])] if len(words) > 1 and words[0] not in ("go", "put") else []
            for other in wrong:
                if other != line and not (line.startswith(("begin", "again", "news", "told", "asks", "standing", "rest",
                    "page", "release")) and other == line + "\t"):
                    with self.subTest(other):
                        self.assertEqual(raised(BadLine, desk.say, other), other)
        for line in ("revise", "Revise x", "revised -", "go none", "go no", "go ok ok late Ok", "go ok,ok", "go -",
                     "goes", "tick tick", "put_common m hi", "ask a ann", "truth ann", "trial", "say", "begin",
                     "put bob yes 04 / none / lo", "put bob yes 4 / none / LO", "put bob yes -0 / none / lo",
                     "put bob yes 1000000000000 / none / lo", f"put bob yes 4 / none / {'x' * 13}",
                     "put bob yes 4/none/lo",
                     "put bob yes 4 / none / l-o", "house | table", "tables", ""):
            with self.subTest(line):
                self.assertEqual(raised(BadLine, desk.say, line), line)
        self.assertEqual(state(desk), before)


class BesideTheMethodsTest(unittest.TestCase):
    """Each line of the table beside the method that it calls, in drawn histories."""

    def test_drawn_histories(self):
        draw = random.Random(71)
        seen = {}
        for _ in range(80):
            program = drawing.program(draw, 1, 3, common=0.35)
            sources = [line for line in program.text.split("\n") if line.startswith(("source", "  "))]
            self.names = ("ann", "bob", "cat")[:draw.randint(1, 3)]
            worlds = drawing.truths(draw, program, self.names)
            desk = Desk(program.text, "\n".join(f"{name} {self.answers(world)}" for name, world in worlds))
            house = House(Outside(program, worlds))
            for _ in range(25):
                line, call = self.step(draw, house, sources)
                expected, found = self.result(call), self.result(lambda: desk.say(line))
                self.assertEqual(found, expected, line)
                kind = (line.split(" ")[0], isinstance(found, str))
                seen[kind] = seen.get(kind, 0) + 1
                self.assertEqual(desk.say("house"), told(show_house(house)))
                self.assertEqual(said(desk, "paid", "spent", "time", "cases"),
                                 [str(house.outside.paid), str(house.spent), str(house.outside.time),
                                  " ".join(house.cases) or "-"])
                for name in house.cases:
                    asks = plan(house.program, house.standing(name)).asks
                    self.assertEqual(said(desk, f"told {name}", f"asks {name}", f"standing {name}"),
                                     [str(house.told(name)), " ".join(asks) or "-", show_known(house.standing(name))])
        for kind in ("begin", "go", "tick", "news", "again", "undo", "revise", "put", "release"):
            self.assertGreater(seen.get((kind, True), 0), 5, kind)

    def value(self, value):
        return {True: "yes", False: "no"}[value] if isinstance(value, bool) else str(value)

    def answers(self, world):
        return " / ".join("none" if answer is None else " ".join(map(self.value, answer)) for answer in world)

    def result(self, call):
        try:
            return call()
        except AskError as error:
            return (error.__class__, error.value)

    def step(self, draw, house, sources):
        """A line, and what it stands for."""
        name, source = draw.choice((*self.names, "eve")), draw.choice((*house.program.sources, "zoo"))
        kind = draw.choice(("begin", "begin", "go", "go", "go", "tick", "news", "again", "undo", "revise", "put",
                            "release", "page", "rest"))
        if kind == "go":
            troubles = tuple(draw.choice(("ok", "ok", "lost", "late", "twice", "down",
                                          "crash")) for _ in range(draw.randint(0, 5)))
            return " ".join(["go", *troubles]), lambda: " ".join(word for _, _, word in house.go(troubles)) or "-"
        if kind == "tick":
            return kind, lambda: self.done(house.outside.tick())
        if kind in ("begin", "again"):
            return f"{kind} {name}", lambda: self.done(house.begin(name) if kind == "begin" else house.again(name))
        if kind == "news":
            return f"news {source} {name}", lambda: " ".join(house.news(source, name)) or "-"
        if kind == "release":
            return f"release {source} {name}", lambda: self.done(house.outside.release(source, name))
        if kind == "put":
            world = draw.choice(drawing.all_answers(house.program))
            return f"put {name} {self.answers(world)}", lambda: self.done(house.outside.put(name, world))
        if kind == "undo":
            return kind, lambda: self.turned(house.undo())
        if kind == "revise":
            program = drawing.program_with(draw, sources)
            return f"revise {told(program.text)}", lambda: self.turned(house.revise(program))
        if kind == "rest":
            return f"rest {name}", lambda: show_known(house.rest(name))
        return f"page {name}", lambda: self.paged(house.page(name))

    def done(self, returned):
        self.assertIsNone(returned)
        return "done"

    def turned(self, found):
        return " / ".join(" ".join(names) or "-" for names in found)

    def paged(self, page):
        row = "-" if page.row is None else page.row
        return f"{page.subject} {page.time} {page.outcome} {row} {show_known(page.known)}"


if __name__ == "__main__":
    unittest.main()
