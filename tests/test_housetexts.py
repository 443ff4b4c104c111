import inspect
import random
import unittest

import drawing
from modelling import state_of, told_of
from onlyasked import housetexts
from onlyasked.errors import BadText, NoPage, OtherTime
from onlyasked.house import House
from onlyasked.housetexts import read_house, show_house
from onlyasked.outside import Outside
from onlyasked.programs import Program
from onlyasked.standings import Known
from samples import any_values, raised, same

CLUB = ("round 2\nsource m price 4 stay 3 common\n  z yes\nsource a price 1 stay 2\n  x yes\n  n -5..9\n"
        "source k price 2 maybe common\n  w lo hi\n"
        "source b price 3 stay 1 maybe\n  y yes\ndecide go if a.x and b.y and m.z\notherwise halt")
PROGRAM = Program(CLUB)
OTHER = CLUB.replace("otherwise halt", "otherwise other")
TRUTH = ((True,), (True, 4), None, (False,))
NAMES = ("ann", "bob", "cat", "dan")
HEAD = ["time 0", "spent 5", "rows no"]


def outside(time=0, program=PROGRAM):
    one = Outside(program, tuple((name, TRUTH) for name in NAMES))
    for _ in range(time):
        one.tick()
    return one


def text_of(*lines):
    return "\n".join([*HEAD, *lines])


def program_lines(text=OTHER):
    return [f"  {line}" for line in text.split("\n")]


FULL = text_of(
    "common m m.z yes for 2", "common k k no for ever", "case ann a.n 4 for 1; a.x yes for 2", "case bob -",
    "coming a ann 1 yes 4", "coming m - 2 yes",
    "coming b bob 0 none", "page ann 1 go 0 a.x yes for 2; b.y yes for 1; m.z yes for 3", "page cat 0 halt - -",
    "page ann 3 wait - k.w lo for ever",
    "page bob 2 none 12 a.n -5 for 0", "rest cat a.x no for 0; k no for 2", "revised ann,bob", *program_lines(),
    "revised -", *program_lines(CLUB))


def line_of(text, one=None):
    """The line of BadText, None if the text is read; what was read writes the same text."""
    try:
        house = read_house(one or outside(), text)
    except BadText as error:
        return error.value
    if show_house(house) != text:
        raise AssertionError(show_house(house))
    return None


class NamesTest(unittest.TestCase):
    def test_they_are_defined_here(self):
        self.assertEqual(show_house.__module__, "onlyasked.housetexts")
        self.assertEqual(read_house.__module__, "onlyasked.housetexts")
        self.assertEqual(list(inspect.signature(housetexts.show_house).parameters), ["house"])
        self.assertEqual(list(inspect.signature(housetexts.read_house).parameters), ["outside", "text"])

    def test_arguments_by_name(self):
        self.assertEqual(show_house(house=read_house(text=FULL, outside=outside())), FULL)


class ShowTest(unittest.TestCase):
    def test_a_new_house(self):
        self.assertEqual(show_house(House(outside())), "time 0\nspent 0\nrows no")
        self.assertEqual(show_house(House(outside(3), rows=True)), "time 3\nspent 0\nrows yes")

    def test_all_kinds_of_lines(self):
        one = Outside(PROGRAM, (("ann", TRUTH), ("bob", ((True,), (True, -5), None, (True,))),
                                ("cat", ((True,), (False, 0), None, None))))
        house = House(one)
        for name in ("cat", "ann", "bob"):
            house.begin(name)
        # Each case asks a and b, the first one m, too.
        self.assertEqual(len(house.go(("late", "lost", "ok", "ok", "ok", "lost", "late"))), 7)
        house.revise(Program(OTHER))
        self.assertEqual(show_house(house), "\n".join([
            "time 1", f"spent {house.spent}", "rows no", "common m m.z yes for 3", "case ann -", "case cat -",
            "coming a ann 1 yes 4", "coming b cat 0 none",
            "page bob 1 go 0 a.x yes for 2; b.y yes for 1; m.z yes for 3",
            "rest bob a.x yes for 2; b.y yes for 1; m.z yes for 3", "revised -", *program_lines(CLUB)]))
        for _ in range(2):
            one.tick()
        house.revise(Program(OTHER.replace("decide go", "decide stop")))
        self.assertEqual(show_house(house).split("\n")[3:8], [
            "common m m.z yes for 1", "case ann -", "case bob a.x yes for 0", "case cat -",
            "page bob 1 go 0 a.x yes for 2; b.y yes for 1; m.z yes for 3"])
        self.assertEqual([line for line in show_house(house).split("\n") if line.startswith("revised")],
                         ["revised -", "revised bob"])
        house.undo()
        self.assertEqual([line for line in show_house(house).split("\n") if line.startswith(("revised", "rest",
            "page"))],
                         ["page bob 1 go 0 a.x yes for 2; b.y yes for 1; m.z yes for 3",
                          "rest bob a.x yes for 0; m.z yes for 1", "revised -"])

    def test_answers_that_never_come_have_no_line(self):
        one = outside()
        house = House(one)
        house.begin("ann")
        house.go(("late", "late", "late"))
        self.assertEqual([line for line in show_house(house).split("\n") if line.startswith("coming")],
                         ["coming a ann 1 yes 4", "coming b ann 0 no", "coming m - 2 yes"])
        one.tick()
        self.assertEqual([line for line in show_house(house).split("\n") if line.startswith("coming")],
                         ["coming a ann 0 yes 4", "coming m - 1 yes"])


class ReadTest(unittest.TestCase):
    def test_what_is_read(self):
        one = outside()
        house = read_house(one, FULL)
        self.assertIsInstance(house, House)
        self.assertIs(house.outside, one)
        self.assertIs(house.program, PROGRAM)
        self.assertTrue(same((house.spent, house.cases, one.time, one.paid), (5, ("ann", "bob"), 0, 0)))
        self.assertEqual([told_of(page) for page in house.pages], [
            ("ann", 1, "go", 0, Known((("a.x", True, 2), ("b.y", True, 1), ("m.z", True, 3)))),
            ("cat", 0, "halt", None, Known()),
            ("ann", 3, "wait", None, Known((("k.w", "lo", None),))), ("bob", 2, "none", 12, Known((("a.n", -5, 0),)))])
        self.assertEqual(house.standing("ann").lines,
                         (("a.n", 4, 1), ("a.x", True, 2), ("k", False, None), ("m.z", True, 2)))
        self.assertEqual(house.standing("bob").lines, (("k", False, None), ("m.z", True, 2)))
        self.assertEqual(house.rest("cat").lines, (("a.x", False, 0), ("k", False, 2)))
        self.assertEqual(told_of(house.page("cat")), told_of(house.pages[1]))
        for name in ("ann", "bob", "dan"):
            self.assertEqual(raised(NoPage, house.page, name), name)
        self.assertEqual(show_house(house), FULL)

    def test_the_subject_of_a_page_without_a_rest_is_not_decided(self):
        house = read_house(outside(), text_of("page ann 0 halt 1 a.x no for 2"))
        self.assertEqual(raised(NoPage, house.rest, "ann"), "ann")
        house.begin("ann")
        self.assertEqual((house.cases, len(house.pages)), (("ann",), 1))

    def test_undo_of_what_was_read(self):
        text = text_of("case ann a.x yes for 2", "case bob a.x yes for 1",
                       "page ann 0 go 0 a.x yes for 2; b.y yes for 1", "page cat 0 stop 0 -",
                       "page bob 0 halt 1 a.x no for 2",
                       "rest cat -", "revised bob", *program_lines(CLUB.replace("round 2", "round 5")), "revised ann",
                       *program_lines())
        house = read_house(outside(), text)
        self.assertEqual(house.undo(), (("ann",), ("cat",)))
        self.assertEqual((house.program.text, house.outside.program.text, house.cases), (OTHER, OTHER, ("bob", "cat")))
        self.assertEqual(house.rest("ann").lines, (("a.x", True, 2), ("b.y", True, 1)))
        self.assertEqual(house.undo(), (("bob",), ("ann",)))
        self.assertEqual((house.program.round_price, house.cases), (5, ("ann", "cat")))

    def test_who_is_decided_again_is_not_held_against_the_program(self):
        """A page of that text need not settle what it says; undo takes it as it is."""
        text = text_of("case ann a.x yes for 2", "page ann 7 zebra 3 b.y yes for 1", "revised ann", *program_lines())
        house = read_house(outside(), text)
        self.assertEqual(house.undo(), (("ann",), ()))
        self.assertEqual((house.page("ann").outcome, house.rest("ann").lines, house.cases),
                         ("zebra", (("b.y", True, 1),), ()))

    def test_rows(self):
        house = read_house(outside(), "time 0\nspent 0\nrows yes\ncase ann a.x yes for 0; b.y no for 0")
        self.assertEqual(house.told("ann"), 0)
        house.go()
        house = read_house(outside(), "time 0\nspent 0\nrows yes")
        self.assertEqual(show_house(house), "time 0\nspent 0\nrows yes")

    def test_contradicting_texts_are_read_all_the_same(self):
        """Whether a house could have come to this is not asked."""
        for line in ("case ann a.x yes for 0; b no for 1; b.y yes for 1", "common k k no for ever; k.w lo for 2",
                     "page ann 7 zebra 99 a.x yes for 0", "coming a ann 2 no 9",
                     "coming b ann 1 yes", "coming k - 0 lo", "coming m - 3 no", "common k k.w hi for 0"):
            self.assertIsNone(line_of(text_of(line)))
        self.assertIsNone(line_of(text_of("coming a ann 2 no 9", "coming a ann 2 no 9", "coming a ann 1 yes 0")))
        self.assertIsNone(line_of(text_of("page ann 0 halt 1 -", "page ann 0 halt 1 -")))


class AnyValueTest(unittest.TestCase):
    def test_any_value(self):
        for value in any_values():
            self.assertTrue(same(raised(BadText, read_house, outside(), value), 0))
        self.assertEqual(raised(BadText, read_house, outside(), FULL.split("\n")), 0)


class HeadTest(unittest.TestCase):
    def test_the_first_three_lines(self):
        for lines, line in (
            (["time 0"], 1), (["time 0", "spent 0"], 2), ([""], 0), (["time 0", ""], 1), (["time 0", "spent 0", ""], 2),
            (["spent 0", "time 0", "rows no"], 0),
            (["time 0", "rows no", "spent 0"], 1), (["time 0", "time 0", "spent 0", "rows no"], 1),
            (["time 0", "spent 0", "rows no", ""], 3),
            (["time 0", "spent 0", "rows no", "rows no"], 3), (["time 0", "spent 0", "rows no", "time 0"], 3),
            (["time 0", "spent 0", "spent 0", "rows no"], 2),
            (["time 0", "spent 0", "common m m.z yes for 2"], 2), (["case ann -"], 0),
        ):
            with self.subTest(lines):
                self.assertEqual(line_of("\n".join(lines)), line)

    def test_numbers(self):
        for word in ("", "-1", "00", "01", "-0", "+0", "0 ", " 0", "x", "1000000000000", "0 0", "yes", "1.0"):
            self.assertEqual(line_of(f"time {word}\nspent 0\nrows no"), 0)
            self.assertEqual(line_of(f"time 0\nspent {word}\nrows no"), 1)
        for number in (0, 7, 999999999999):
            self.assertIsNone(line_of(f"time 0\nspent {number}\nrows no"))
        for word in ("", "Yes", "true", "yes ", " no", "0", "none", "yes no", "-"):
            self.assertEqual(line_of(f"time 0\nspent 0\nrows {word}"), 2)

    def test_other_time(self):
        self.assertEqual(raised(OtherTime, read_house, outside(), "time 1\nspent 0\nrows no"), 1)
        self.assertEqual(raised(OtherTime, read_house, outside(4), "time 999999999999\nspent 0\nrows no"), 999999999999)
        self.assertTrue(same(raised(OtherTime, read_house, outside(4), FULL), 0))
        self.assertIsNone(line_of("time 4\nspent 0\nrows no", outside(4)))

    def test_other_time_comes_behind_bad_text(self):
        for text, line in (("time 1\nspent 0\nrows maybe", 2), ("time 1\nspent 0\nrows no\ncase eve -", 3),
                           ("time 1\nspent 0", 2)):
            self.assertEqual(raised(BadText, read_house, outside(), text), line)
        lines = FULL.replace("time 0", "time 3").split("\n")
        self.assertEqual(raised(BadText, read_house, outside(), "\n".join([*lines[:-1], "  otherwise"])),
                         len(lines) - len(program_lines()) - 1)


class LinesTest(unittest.TestCase):
    def refused(self, *lines, at=None):
        """That the last of these lines, or the one at this place, is refused."""
        place = len(lines) - 1 if at is None else at
        with self.subTest(lines):
            self.assertEqual(line_of(text_of(*lines)), 3 + place)

    def taken(self, *lines):
        with self.subTest(lines):
            self.assertIsNone(line_of(text_of(*lines)))

    def test_the_sequence_of_kinds(self):
        page = "page bob 0 halt 1 -"
        kinds = ["common m m.z yes for 2", "case ann -", "coming m - 2 yes", page, "rest bob -"]
        self.taken(*kinds, "revised -", *program_lines())
        for at, line in enumerate(kinds):
            self.taken(*[other for other in kinds if other != line and (line != page or other != "rest bob -")])
            self.refused("revised -", *program_lines(), line, at=1 + len(program_lines()))
            for earlier in kinds[:at]:
                self.refused(*([page] if line == "rest bob -" else []), line, earlier)

    def test_unknown_lines(self):
        for line in ("", " ", "case", "Case ann -", "cases ann -", "time 0", "note", "  round 1", "-", " case ann -",
                     "case  ann -", "case ann  -", "case ann - ", "case ann"):
            self.refused(line)
            self.refused("case ann -", line)

    def test_lines_with_too_few_words(self):
        before = ["page ann 0 go 0 -"]
        for line in ("common m m.z yes for 2", "case ann -", "coming a ann 1 yes 4", "page ann 1 go 0 -", "rest ann -",
                     "revised -"):
            words = line.split(" ")
            for many in range(1, len(words)):
                self.refused(*(before if line.startswith("rest") else []), " ".join(words[:many]))

    def test_common(self):
        self.taken("common m m.z no for 3", "common k k yes for 2; k.w hi for ever")
        self.taken("common k k.w hi for 0")
        for line in ("common m -", "common m", "common m ", "common a a.x yes for 1", "common x m.z yes for 1",
                     "common m.z m.z yes for 1", "common m a.x yes for 1",
                     "common m k no for 1", "common m m.z yes for ever", "common m m.z lo for 1",
                     "common m m.y yes for 1", "common m m yes for 1", "common k k lo for 1",
                     "common k k.w far for 1", "common m m.z yes for 4", "common m m.z yes",
                     "common m m.z yes for 1; m.z yes for 1", "common - m.z yes for 1",
                     "common k k.w lo for 1; k no for 1", "common m m.z yes for 1; k no for 1",
                     "common m 1 m.z yes for 1"):
            self.refused(line)
        self.refused("common m m.z no for 3", "common m m.z no for 3")
        self.refused("common k k no for 3", "common m m.z no for 3")

    def test_case(self):
        self.taken("case ann -", "case bob a.n -5 for 0; a.x no for 2; b yes for 1; b.y no for 0",
                   "case dan b no for 1")
        for line in ("case eve -", "case ann,bob -", "case - -", "case ann m.z yes for 1", "case ann a.x yes for 3",
                     "case ann a.x yes for ever", "case ann b no for 2",
                     "case ann a.n 10 for 1", "case ann a.n -6 for 1", "case ann a.n yes for 1", "case ann a.x 1 for 1",
                     "case ann a yes for 1", "case ann c.x yes for 1",
                     "case ann b 0 for 1", "case ann b.y none for 1", "case ann k.w lo for 1",
                     "case ann a.x yes for 1; m.z yes for 1", "case ann a.x yes for 1; a.n 1 for 1"):
            self.refused(line)
        self.refused("case ann -", "case ann -")
        self.refused("case bob -", "case ann -")

    def test_coming(self):
        self.taken("coming a ann 2 yes -5", "coming b dan 1 none", "coming b ann 0 yes", "coming m - 3 no",
                   "coming k - ever none", "coming k - 0 hi", "coming a ann 0 no 9")
        for line in ("coming a ann 3 yes 4", "coming a ann ever yes 4", "coming b ann 2 yes", "coming m - 4 yes",
                     "coming m - ever yes", "coming m ann 2 yes", "coming a - 2 yes 4",
                     "coming a eve 2 yes 4", "coming x ann 2 yes", "coming a ann 2 yes", "coming a ann 2 4 yes",
                     "coming a ann 2 yes 10", "coming a ann 2 none", "coming a ann 2",
                     "coming a ann 2 ", "coming a ann 2 yes 4 4", "coming a ann -1 yes 4", "coming a ann 02 yes 4",
                     "coming a ann yes 4", "coming b ann 1 none none", "coming b ann 1 lo",
                     "coming k - 2 far", "coming k - 2 yes", "coming k - 2 none hi", "coming m - 2 yes / no",
                     "coming a ann 2 yes  4", "coming a ann 2 1 4", "coming a ann 2 yes yes",
                     "coming - ann 2 yes 4", "coming a  2 yes 4"):
            self.refused(line)

    def test_page(self):
        self.taken("page ann 0 go 0 -",
                   "page ann 999999999999 otherwise 999999999999 a.x yes for 2; b no for 1; k.w lo for ever",
                   "page dan 3 x - -")
        for line in ("page eve 0 go 0 -", "page - 0 go 0 -", "page ann -1 go 0 -", "page ann 01 go 0 -",
                     "page ann 1000000000000 go 0 -", "page ann x go 0 -", "page ann 0 Go 0 -",
                     "page ann 0 xxxxxxxxxxxxx 0 -", "page ann 0 5 0 -", "page ann 0 - 0 -", "page ann 0 go -1 -",
                     "page ann 0 go 00 -", "page ann 0 go 1000000000000 -",
                     "page ann 0 go x -", "page ann 0 go none -", "page ann 0 go 0", "page ann 0 go 0 ",
                     "page ann 0 go - - -", "page ann 0 go 0 a.x yes for 3", "page ann 0 go 0 a.x yes for ever",
                     "page ann 0 go 0 k.w far for 1", "page ann 0 go 0 c.x yes for 1",
                     "page ann 0 go 0 b.y yes for 1; a.x yes for 1", "page ann 0 go 0 a.x yes",
                     "page ann 0 go 0 m.z yes for 4"):
            self.refused(line)

    def test_rest(self):
        pages = ["page ann 0 go 0 -", "page bob 0 go 0 -"]
        self.taken(*pages, "rest ann a.x yes for 2; k no for ever; m.z no for 0", "rest bob -")
        self.taken(*pages, "rest bob -")
        for line in ("rest cat -", "rest eve -", "rest - -", "rest ann", "rest ann ", "rest ann a.x yes for 3",
                     "rest ann a.x yes for ever", "rest ann m.z yes for ever", "rest ann c.x yes for 1",
                     "rest ann a.x lo for 1", "rest ann a.x yes", "rest ann,bob -", "rest ann - -"):
            self.refused(*pages, line)
        self.refused(*pages, "rest ann -", "rest ann -")
        self.refused(*pages, "rest bob -", "rest ann -")
        self.refused("case ann -", *pages, "rest ann -")
        self.refused("rest ann -", *pages, at=0)

    def test_revised(self):
        before = ["case ann -", "case bob -", "page ann 0 go 0 -", "page bob 0 go 0 -", "page cat 0 go 0 -",
                  "rest cat -"]
        for names in ("-", "ann", "bob", "ann,bob"):
            self.taken(*before, f"revised {names}", *program_lines())
            self.taken(*before, f"revised {names}", *program_lines(), f"revised {names}", *program_lines(CLUB))
        for names in ("", "bob,ann", "ann,ann", "cat", "ann,cat", "dan", "eve", "ann bob", "ann, bob", "ann,", ",ann",
                      "ann,-", "- -", "-,ann", " ann", "ann "):
            self.refused(*before, f"revised {names}", *program_lines(), at=6)
        self.refused(*before, "revised", *program_lines(), at=6)
        self.refused("case ann -", "revised ann", *program_lines(), at=1)
        self.refused("page ann 0 go 0 -", "revised ann", *program_lines(), at=1)

    def test_the_program_of_a_revise(self):
        self.taken("revised -", *program_lines(CLUB.replace("round 2", "round 9")))
        for lines in (
            [], ["round 2"], program_lines()[:-1], program_lines("round 2"), [*program_lines(), "  "],
            [*program_lines(), "  otherwise x"],
            program_lines(CLUB.replace("price 4", "price 5")), program_lines(CLUB.replace("stay 3", "stay 2")),
            program_lines(CLUB.replace(" maybe common", " maybe")),
            program_lines(CLUB.replace("maybe common", "common").replace("source k", "source k")),
            program_lines(CLUB.replace("lo hi", "hi lo")), program_lines(CLUB.replace("-5..9", "-5..8")),
            program_lines(CLUB.replace("a.x and", "a.z and")), program_lines(CLUB.replace("go if", "if if")),
            program_lines(CLUB.replace("decide", "given false\ndecide")),
            [f" {line}" for line in program_lines()], [line[1:] for line in program_lines()], CLUB.split("\n"),
            program_lines(CLUB.replace("source a", "source c").replace("a.x", "c.x")),
        ):
            self.refused("revised -", *lines, at=0)
        self.refused("revised -", *program_lines(), "", at=1 + len(program_lines()))
        self.refused("revised -", *program_lines(), "case ann -", at=1 + len(program_lines()))
        self.refused("revised -", *program_lines(), " x", at=1 + len(program_lines()))
        self.refused("revised -", *program_lines(), "revised ann", *program_lines(), at=1 + len(program_lines()))

    def test_words_are_separated_by_one_blank(self):
        lines = FULL.split("\n")
        for at, line in enumerate(lines):
            if line.startswith("  "):
                continue
            places = [place for place, sign in enumerate(line) if sign == " "]
            for other in [line + " ", " " + line, *[line[:place] + " " + line[place:] for place in places],
                          *[line[:place] + line[place + 1:] for place in places]]:
                with self.subTest(other):
                    self.assertEqual(line_of("\n".join([*lines[:at], other, *lines[at + 1:]])), at)

    def test_lines_left_out_and_twice(self):
        lines = FULL.split("\n")
        self.assertIsNone(line_of(FULL))
        for at, line in enumerate(lines):
            kind = line.split(" ")[0]
            left_out = line_of("\n".join(lines[:at] + lines[at + 1:]))
            twice = line_of("\n".join([*lines[:at], line, *lines[at:]]))
            if kind in ("common", "coming", "rest"):
                self.assertIsNone(left_out)
            if at < 3:
                self.assertEqual(left_out, at)
            if kind in ("coming", "page"):
                self.assertIsNone(twice)
            elif kind in ("time", "spent", "rows", "common", "case", "rest"):
                self.assertEqual(twice, at + 1)
            elif kind == "revised":
                self.assertEqual(twice, at)
        for left, refused in (("case ann a.n 4 for 1; a.x yes for 2", "revised ann,bob"),
                              ("case bob -", "revised ann,bob"), ("page cat 0 halt - -", "rest cat"),
                              ("page bob 2 none 12 a.n -5 for 0", "revised ann,bob")):
            other = [line for line in lines if line != left]
            self.assertEqual(line_of("\n".join(other)),
                             [at for at, line in enumerate(other) if line.startswith(refused)][0])


class ChangedTextsTest(unittest.TestCase):
    def test_what_is_read_says_the_same(self):
        """A changed text is refused at the first line that was changed or a later one, or is read as what it says."""
        draw = random.Random(61)
        seen = {True: 0, False: 0}
        for _ in range(4000):
            at = draw.randrange(len(FULL))
            sign = draw.choice("abknmyes 012-;./,\n")
            other = draw.choice((FULL[:at] + FULL[at + 1:], FULL[:at] + sign + FULL[at:],
                                 FULL[:at] + sign + FULL[at + 1:]))
            line = line_of_other_time(other)
            seen[line is None] += 1
            if line is not None:
                self.assertLessEqual(line, len(other.split("\n")))
                changed = FULL[:at].count("\n")
                block = max(place for place,
                            one in enumerate(FULL.split("\n")[:changed + 1]) if not one.startswith("  "))
                self.assertGreaterEqual(line, block)
        self.assertGreater(min(seen.values()), 150)


def line_of_other_time(text):
    try:
        return line_of(text)
    except OtherTime as error:
        assert f"time {error.value}" == text.split("\n", 1)[0]
        return None


class HistoriesTest(unittest.TestCase):
    """Houses of all histories are written and read back, and go on in step with the house that was written."""

    def test_drawn_histories(self):
        draw = random.Random(62)
        kinds = {}
        for _ in range(120):
            program = drawing.program(draw, 1, 3, common=0.35)
            sources = [line for line in program.text.split("\n") if line.startswith(("source", "  "))]
            names = NAMES[:draw.randint(1, 4)]
            house = House(Outside(program, drawing.truths(draw, program, names)), rows=draw.random() < 0.3)
            twin = None
            for _ in range(12):
                steps = self.steps(draw, names, sources, house)
                for step in steps:
                    told = self.result(step, house)
                    if twin is not None:
                        self.assertEqual(self.result(step, twin), told)
                if twin is not None:
                    self.assertEqual((show_house(twin), state_of(twin)), (show_house(house), state_of(house)))
                text = show_house(house)
                for line in text.split("\n"):
                    kinds[line.split(" ")[0]] = kinds.get(line.split(" ")[0], 0) + 1
                twin = read_house(house.outside.copy(), text)
                self.assertEqual((show_house(twin), state_of(twin)), (text, state_of(house)))
        self.assertGreater(min(kinds[kind] for kind in ("common", "case", "coming", "page", "rest", "revised")), 50)

    def result(self, step, house):
        try:
            return step(house)
        except ValueError as error:
            return (error.__class__, error.value)

    def steps(self, draw, names, sources, house):
        """What is done next, as functions of a house; names of sources are those of the program."""
        name, source = draw.choice(names), draw.choice(house.program.sources)
        kind = draw.random()
        if kind < 0.2:
            return [lambda one: one.begin(name)]
        if kind < 0.6:
            troubles = tuple(draw.choice(("ok", "ok", "ok", "lost", "late", "twice", "down",
                                          "crash")) for _ in range(6))
            return [lambda one: one.go(troubles)]
        if kind < 0.65:
            return [lambda one: one.outside.tick()]
        if kind < 0.8:
            program = drawing.program_with(draw, sources)
            return [lambda one: one.revise(program)]
        if kind < 0.86:
            return [lambda one: one.undo()]
        if kind < 0.92:
            return [lambda one: one.news(source, name)]
        return [lambda one: one.again(name)]


if __name__ == "__main__":
    unittest.main()
