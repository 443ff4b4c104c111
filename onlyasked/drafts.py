"""Reading the lines of a program, each by its form alone."""

from onlyasked.errors import BadProgram
from onlyasked.expressions import read_expression
from onlyasked.sources import Field, Source
from onlyasked.spelling import GREATEST, integer_between, is_name

# For each kind of line the kinds that may stand directly ahead of it. The first word of a line is its kind; the line
# of a field begins with a blank, so that its first word is empty.
FOLLOWS = {
    "round": ("start",),
    "source": ("round", ""),
    "": ("source", ""),
    "given": ("", "given"),
    "rule": ("", "given", "rule"),
    "decide": ("", "given", "rule", "decide"),
    "otherwise": ("", "given", "rule", "decide"),
}
MOST_SOURCES = 5
MOST_FIELDS = 4
MOST_GIVENS = 6
MOST_RULES = 12
MOST_DECIDES = 12
MOST_WORDS = 8


class Draft:
    """What the lines of a program say, with the numbers of the lines.

    givens has pairs (line, expression), rules and decides have triples (line, name, expression).
    """

    def __init__(self):
        self.round_price = 0
        self.sources = []
        self.givens = []
        self.rules = []
        self.decides = []
        self.otherwise = ""


def read_name(word, line):
    if not is_name(word):
        raise BadProgram(line)
    return word


def read_integer(word, low, high, line):
    number = integer_between(word, low, high)
    if number is None:
        raise BadProgram(line)
    return number


def read_round(draft, words, line):
    if len(words) != 2:
        raise BadProgram(line)
    draft.round_price = read_integer(words[1], 0, 9, line)


def read_source(draft, words, line):
    if len(draft.sources) == MOST_SOURCES or len(words) < 4 or words[2] != "price":
        raise BadProgram(line)
    source = Source(read_name(words[1], line), read_integer(words[3], 1, 9, line), line)
    rest = words[4:]
    if rest[:1] == ["stay"] and len(rest) > 1:
        source.stay = read_integer(rest[1], 0, 3, line)
        rest = rest[2:]
    if rest[:1] == ["maybe"]:
        source.maybe = True
        rest = rest[1:]
    if rest[:1] == ["common"]:
        source.common = True
        rest = rest[1:]
    if rest:
        raise BadProgram(line)
    draft.sources.append(source)


def read_span(words, line):
    """The kind and the span of a field by the words behind its name."""
    if words == ["yes"]:
        return ("bool", (False, True))
    if len(words) > 1:
        if len(words) > MOST_WORDS:
            raise BadProgram(line)
        return ("word", tuple([read_name(word, line) for word in words]))
    bounds = words[0].split("..")
    if len(bounds) != 2:
        raise BadProgram(line)
    low = read_integer(bounds[0], -GREATEST, GREATEST, line)
    return ("integer", (low, read_integer(bounds[1], low, GREATEST, line)))


def read_field(draft, words, line):
    source = draft.sources[-1]
    if len(source.fields) == MOST_FIELDS or len(words) < 4 or words[1] != "":
        raise BadProgram(line)
    name = read_name(words[2], line)
    kind, span = read_span(words[3:], line)
    source.fields.append(Field(f"{source.name}.{name}", kind, span, line))


def read_given(draft, words, line):
    if len(draft.givens) == MOST_GIVENS:
        raise BadProgram(line)
    draft.givens.append((line, read_expression(" ".join(words[1:]), line)))


def read_rule(draft, words, line):
    if len(draft.rules) == MOST_RULES or len(words) < 3:
        raise BadProgram(line)
    name = read_name(words[1], line)
    draft.rules.append((line, name, read_expression(" ".join(words[2:]), line)))


def read_decide(draft, words, line):
    if len(draft.decides) == MOST_DECIDES or len(words) < 4 or words[2] != "if":
        raise BadProgram(line)
    outcome = read_name(words[1], line)
    draft.decides.append((line, outcome, read_expression(" ".join(words[3:]), line)))


def read_otherwise(draft, words, line):
    if len(words) != 2:
        raise BadProgram(line)
    draft.otherwise = read_name(words[1], line)


READERS = {
    "round": read_round,
    "source": read_source,
    "": read_field,
    "given": read_given,
    "rule": read_rule,
    "decide": read_decide,
    "otherwise": read_otherwise,
}


def read_draft(text):
    """The lines of any value that is a program by its form; BadProgram(line) otherwise."""
    if not isinstance(text, str):
        raise BadProgram(0)
    draft = Draft()
    before = "start"
    lines = text.split("\n")
    for line, written in enumerate(lines):
        words = written.split(" ")
        kind = words[0]
        if before not in FOLLOWS.get(kind, ()):
            raise BadProgram(line)
        reader = READERS[kind]
        reader(draft, words, line)
        before = kind
    if before != "otherwise":
        raise BadProgram(len(lines))
    return draft
