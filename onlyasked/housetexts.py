"""Houses as texts."""

from onlyasked.agreeing import is_fact
from onlyasked.book import Page
from onlyasked.errors import AskError, BadText, OtherTime
from onlyasked.house import House, same_sources
from onlyasked.memory import (
    held_of, is_good, is_longer, known_at, life_at, of_source, together, until_of,
)
from onlyasked.programs import Program
from onlyasked.sources import is_answer, part_named
from onlyasked.spelling import is_word
from onlyasked.standings import is_of_source
from onlyasked.wording import (
    NONE, answer_in, answer_text, known_in, known_text, life_text, lives_in, number_in, or_none,
)

# The kinds of lines behind the first three, in their sequence.
KINDS = ("common", "case", "coming", "page", "rest", "revised")
INDENT = "  "


def common_lines(house):
    found = []
    for part in house.program.parts:
        known = known_at(of_source(house.commons, part), house.outside.time)
        if known.lines:
            found.append(f"common {part.name} {known_text(known)}")
    return found


def case_lines(house):
    time = house.outside.time
    return [f"case {subject} {known_text(known_at(house.own[subject], time))}" for subject in house.cases]


def coming_lines(house):
    next_time = house.outside.time + 1
    found = []
    for source, subject, until, answer in house.coming:
        if is_good(until, next_time):
            life = life_text(life_at(until, next_time))
            found.append(f"coming {source} {NONE if subject is None else subject} {life} {answer_text(answer)}")
    return found


def page_text(page):
    """What a page says."""
    row = NONE if page.row is None else page.row
    return f"{page.subject} {page.time} {page.outcome} {row} {known_text(page.known)}"


def rest_lines(house):
    return [f"rest {subject} {known_text(house.rest(subject))}" for subject in sorted(list(house.rests))]


def revised_lines(house):
    found = []
    for program, again in house.revised:
        found.append(f"revised {or_none(again, ',')}")
        found.extend([INDENT + line for line in program.text.split("\n")])
    return found


def show_house(house):
    """The text of a house."""
    rows = "yes" if house.rows else "no"
    lines = [f"time {house.outside.time}", f"spent {house.spent}", f"rows {rows}"]
    lines.extend(common_lines(house) + case_lines(house) + coming_lines(house))
    lines.extend([f"page {page_text(page)}" for page in house.pages])
    lines.extend(rest_lines(house) + revised_lines(house))
    return "\n".join(lines)


def is_fact_line(program, part, line):
    """Whether a line of a standing is a fact about a source that stays good no longer than its answers."""
    name, value, life = line
    return is_of_source(name, part.name) and is_fact(program, name, value) and not is_longer(life, part.stay)


def is_ascending(names):
    return names == sorted(set(names))


class HouseReader:
    """Goes through the lines of a house for an outside; BadText(line) at the first one that does not fit."""

    def __init__(self, outside, lines):
        self.outside = outside
        self.program = outside.program
        self.lines = lines
        self.at = 0
        self.time = 0
        self.house = None
        self.named = []

    def refuse_unless(self, fits):
        if not fits:
            raise BadText(self.at)

    def refuse_lower(self, place):
        """Looks that what the lines of this kind are sorted by ascends."""
        self.named = [*self.named, place]
        self.refuse_unless(is_ascending(self.named))

    def known_of(self, words, parts):
        """The standing that words write, with facts of some sources."""
        known = known_in(" ".join(words))
        self.refuse_unless(known is not None)
        for line in known.lines:
            self.refuse_unless(any([is_fact_line(self.program, part, line) for part in parts]))
        return known

    def part_of(self, source):
        self.refuse_unless(source in self.program.sources)
        return part_named(self.program, source)

    def subject_of(self, word):
        self.refuse_unless(word in self.outside.subjects)
        return word

    def pages_of(self, subject):
        return [page for page in self.house.pages if page.subject == subject]

    def head(self, kind):
        """What stands behind the word of one of the first lines."""
        self.refuse_unless(self.at < len(self.lines))
        words = self.lines[self.at].split(" ")
        self.refuse_unless(len(words) == 2 and words[0] == kind)
        return words[1]

    def head_number(self, kind):
        number = number_in(self.head(kind))
        self.refuse_unless(number is not None)
        self.at += 1
        return number

    def read_heads(self):
        self.time = self.head_number("time")
        spent = self.head_number("spent")
        rows = self.head("rows")
        self.refuse_unless(rows in ("yes", "no"))
        self.at += 1
        house = House(self.outside, rows=rows == "yes")
        house.spent = spent
        self.house = house

    def read_others(self):
        before = KINDS[0]
        while self.at < len(self.lines):
            words = self.lines[self.at].split(" ")
            kind = words[0]
            self.refuse_unless(kind in KINDS and KINDS.index(kind) >= KINDS.index(before))
            if kind != before:
                self.named = []
            before = kind
            reader = READERS[kind]
            reader(self, words)
            self.at += 1


def read_common(reader, words):
    """`common SOURCE KNOWN`"""
    reader.refuse_unless(len(words) > 2)
    part = reader.part_of(words[1])
    reader.refuse_unless(part.common)
    reader.refuse_lower(reader.program.sources.index(part.name))
    known = reader.known_of(words[2:], [part])
    reader.refuse_unless(known.lines != ())
    house = reader.house
    house.commons = together(house.commons, held_of(known, reader.time))


def read_case(reader, words):
    """`case SUBJECT KNOWN`"""
    reader.refuse_unless(len(words) > 2)
    subject = reader.subject_of(words[1])
    reader.refuse_lower(subject)
    known = reader.known_of(words[2:], [part for part in reader.program.parts if not part.common])
    house = reader.house
    house.own[subject] = held_of(known, reader.time)


def read_coming(reader, words):
    """`coming SOURCE SUBJECT LIFE ANSWER`"""
    reader.refuse_unless(len(words) > 4)
    part = reader.part_of(words[1])
    if part.common:
        reader.refuse_unless(words[2] == NONE)
    subject = None if part.common else reader.subject_of(words[2])
    lives = lives_in(words[3])
    answers = answer_in(words[4:])
    reader.refuse_unless(lives and not is_longer(lives[0], part.stay))
    reader.refuse_unless(answers and is_answer(part, answers[0]))
    house = reader.house
    house.coming = (*house.coming, (part.name, subject, until_of(reader.time + 1, lives[0]), answers[0]))


def read_page(reader, words):
    """`page SUBJECT TIME OUTCOME ROW KNOWN`"""
    reader.refuse_unless(len(words) > 5)
    subject = reader.subject_of(words[1])
    time = number_in(words[2])
    row = None if words[4] == NONE else number_in(words[4])
    reader.refuse_unless(time is not None and is_word(words[3]))
    reader.refuse_unless(row is not None or words[4] == NONE)
    known = reader.known_of(words[5:], reader.program.parts)
    house = reader.house
    house.pages = (*house.pages, Page(subject, time, words[3], row, known))


def read_rest(reader, words):
    """`rest SUBJECT KNOWN`"""
    reader.refuse_unless(len(words) > 2)
    subject = reader.subject_of(words[1])
    reader.refuse_lower(subject)
    reader.refuse_unless(reader.pages_of(subject) and subject not in reader.house.own)
    known = reader.known_of(words[2:], reader.program.parts)
    house = reader.house
    house.rests[subject] = held_of(known, reader.time)


def program_in(lines):
    """The program that lines write, None if there is none."""
    try:
        return Program("\n".join(lines))
    except AskError:
        return None


def read_revised(reader, words):
    """`revised SUBJECTS`, and below it the lines of a program"""
    reader.refuse_unless(len(words) == 2)
    again = [] if words[1] == NONE else words[1].split(",")
    reader.refuse_unless(is_ascending(again))
    for subject in again:
        reader.refuse_unless(subject in reader.house.own and reader.pages_of(subject))
    end = reader.at + 1
    while end < len(reader.lines) and reader.lines[end].startswith(INDENT):
        end += 1
    program = program_in([line[len(INDENT):] for line in reader.lines[reader.at + 1:end]])
    reader.refuse_unless(program is not None and same_sources(program, reader.program))
    house = reader.house
    house.revised = (*house.revised, (program, tuple(again)))
    reader.at = end - 1


READERS = {
    "common": read_common,
    "case": read_case,
    "coming": read_coming,
    "page": read_page,
    "rest": read_rest,
    "revised": read_revised,
}


def read_house(outside, text):
    """A house for an outside by its text; BadText(line) for any value that is none, OtherTime(time)."""
    if not isinstance(text, str):
        raise BadText(0)
    reader = HouseReader(outside, text.split("\n"))
    reader.read_heads()
    reader.read_others()
    if reader.time != outside.time:
        raise OtherTime(reader.time)
    return reader.house
