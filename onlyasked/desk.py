"""A desk: a house with an outside, by lines."""

from onlyasked.errors import BadLine, BadText, BadWorlds
from onlyasked.house import House
from onlyasked.housetexts import page_text, show_house
from onlyasked.outside import Outside
from onlyasked.programs import Program
from onlyasked.tables import table
from onlyasked.tabletexts import table_text
from onlyasked.wording import answers_in, known_text, or_none

TROUBLES = ("ok", "lost", "late", "twice", "down", "crash")
BETWEEN_LINES = " | "


def outside_for(program, text):
    """An outside by the text of its worlds; BadText(line) for any value that is none."""
    if not isinstance(text, str):
        raise BadText(0)
    pairs = ()
    for at, line in enumerate(text.split("\n")):
        words = line.split(" ")
        answers = answers_in(words[1:])
        if answers is None or pairs and words[0] <= pairs[-1][0]:
            raise BadText(at)
        pairs = (*pairs, (words[0], answers))
        try:
            outside = Outside(program, pairs)
        except BadWorlds:
            raise BadText(at) from None
    return outside


def names_text(names):
    return or_none(names, " ")


def turned_text(told):
    """The text of the subjects that stand, and of those that are opened."""
    return f"{names_text(told[0])} / {names_text(told[1])}"


def say_begin(house, words):
    house.begin(words[0])
    return "done"


def say_again(house, words):
    house.again(words[0])
    return "done"


def say_news(house, words):
    return names_text(house.news(words[0], words[1]))


def say_tick(house, words):
    house.outside.tick()
    return "done"


def say_go(house, words):
    return names_text([ask[2] for ask in house.go(tuple(words))])


def say_told(house, words):
    return str(house.told(words[0]))


def say_asks(house, words):
    return names_text(house.first_ask(words[0]))


def say_standing(house, words):
    return known_text(house.standing(words[0]))


def say_rest(house, words):
    return known_text(house.rest(words[0]))


def say_page(house, words):
    return page_text(house.page(words[0]))


def say_cases(house, words):
    return names_text(house.cases)


def say_spent(house, words):
    return str(house.spent)


def say_time(house, words):
    return str(house.outside.time)


def say_paid(house, words):
    return str(house.outside.paid)


def say_revise(house, words):
    # PROGRAM is all that stands behind the blank, so that here empty words and further blanks count.
    return turned_text(house.revise(Program(" ".join(words).replace(BETWEEN_LINES, "\n"))))


def say_undo(house, words):
    return turned_text(house.undo())


def say_put(house, words):
    house.outside.put(words[0], answers_in(words[1:]))
    return "done"


def say_release(house, words):
    house.outside.release(words[0], words[1])
    return "done"


def say_house(house, words):
    return show_house(house).replace("\n", BETWEEN_LINES)


def say_table(house, words):
    return table_text(table(house.program))


# What is done for each first word of a line, and the number of words that stand behind it where it is always the same.
SAYINGS = {
    "begin": say_begin, "again": say_again, "news": say_news, "tick": say_tick, "go": say_go, "told": say_told,
    "asks": say_asks, "standing": say_standing, "rest": say_rest, "page": say_page, "cases": say_cases,
    "spent": say_spent, "time": say_time, "paid": say_paid, "revise": say_revise, "undo": say_undo, "put": say_put,
    "release": say_release, "house": say_house, "table": say_table,
}
FOLLOWING = {
    "begin": 1, "again": 1, "news": 2, "tick": 0, "told": 1, "asks": 1, "standing": 1, "rest": 1, "page": 1,
    "cases": 0, "spent": 0, "time": 0, "paid": 0, "undo": 0, "release": 2, "house": 0, "table": 0,
}


def fits(program, words):
    """Whether words are those of a line for the desk."""
    if words[0] == "revise":
        return len(words) > 1
    if "" in words:
        return False
    if words[0] == "go":
        return all([word in TROUBLES for word in words[1:]])
    if words[0] == "put":
        answers = answers_in(words[2:])
        return answers is not None and len(answers) == len(program.sources)
    return words[0] in FOLLOWING and len(words) - 1 == FOLLOWING[words[0]]


class Desk:
    """A house with an outside; BadLine for any value that is no line for it."""

    def __init__(self, program_text, worlds_text):
        program = Program(program_text)
        self.house = House(outside_for(program, worlds_text))

    def say(self, line):
        """Does what a line says; returns the answer."""
        words = line.split(" ") if isinstance(line, str) else [""]
        if not fits(self.house.program, words):
            raise BadLine(line)
        action = SAYINGS[words[0]]
        return action(self.house, words[1:])
