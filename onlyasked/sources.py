"""Sources and their fields, and what may be an answer of one."""


class Field:
    """A field of a source, with its name as in "person.age".

    What its values are is told by kind and span: "integer" with (LOW, HIGH), "bool" with (False, True), "word" with
    the words. The class of a value (marks.py) is told by the results that all places have which name the field;
    classes has the mark for each tuple of such results, in the sequence of the marks.
    """

    def __init__(self, name, kind, span, line):
        self.name = name
        self.kind = kind
        self.span = span
        self.line = line
        self.places = ()
        self.classes = {}


class Source:
    """A source with its fields; stay is None if its answers stay good for ever."""

    def __init__(self, name, price, line):
        self.name = name
        self.price = price
        self.line = line
        self.stay = None
        self.maybe = False
        self.common = False
        self.fields = []


def part_named(program, name):
    """The Source object of a source of the program."""
    return program.parts[program.sources.index(name)]


def field_forms(source):
    """What the lines of the fields of a source say."""
    return [(field.name, field.kind, field.span) for field in source.fields]


def source_forms(program):
    """What the lines of sources and fields say, but for prices, stay and common."""
    return [(source.name, source.maybe, field_forms(source)) for source in program.parts]


def terms(program):
    """What the lines of sources say of prices, stay and common."""
    return [(source.price, source.stay, source.common) for source in program.parts]


def is_integer(value):
    """Whether any value is an integer; True and False are none."""
    return isinstance(value, int) and not isinstance(value, bool)


def is_value(field, value):
    """Whether any value is one of the field."""
    if field.kind == "integer":
        return is_integer(value) and field.span[0] <= value <= field.span[1]
    if field.kind == "bool":
        return isinstance(value, bool)
    return isinstance(value, str) and value in field.span


def is_answer(source, value):
    """Whether any value is an answer of the source."""
    if value is None:
        return source.maybe
    if not isinstance(value, tuple) or len(value) != len(source.fields):
        return False
    return all([is_value(field, one) for field, one in zip(source.fields, value)])


def are_answers(parts, value):
    """Whether any value is a tuple of an answer for each of these sources."""
    if not isinstance(value, tuple) or len(value) != len(parts):
        return False
    return all([is_answer(source, answer) for source, answer in zip(parts, value)])


def told_by(parts, answers):
    """What answers of these sources tell, by names as in "person.age", and for maybe sources whether they are there."""
    told = {}
    for source, answer in zip(parts, answers):
        if source.maybe:
            told[source.name] = answer is not None
        if answer is not None:
            for field, value in zip(source.fields, answer):
                told[field.name] = value
    return told
