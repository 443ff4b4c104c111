"""The pages of the book of decisions."""

from onlyasked.settling import kept, possible
from onlyasked.standings import Known


class Page:
    """What was decided, with the properties subject, time, outcome, row and known."""

    def __init__(self, subject, time, outcome, row, known):
        self.subject = subject
        self.time = time
        self.outcome = outcome
        self.row = row
        self.known = known

    def __eq__(self, other):
        return (isinstance(other, Page) and self.subject == other.subject and self.time == other.time
                and self.outcome == other.outcome and self.row == other.row and self.known == other.known)


def is_settled(program, known, rows):
    """Whether the facts of a standing settle a result; those with which no world agrees settle none."""
    return len(possible(program, known.facts, rows=rows)) == 1


def page_for(program, rows, subject, time, known):
    """The page for a subject whose standing settles a result."""
    facts = kept(program, known.facts, rows=rows)
    outcomes = possible(program, facts)
    numbers = possible(program, facts, rows=True)
    lines = tuple([line for line in known.lines if line[0] in facts])
    return Page(subject, time, outcomes[0], numbers[0] if len(numbers) == 1 else None, Known(lines))


def stands(program, page):
    """Whether the facts of a page settle its outcome under a program."""
    return possible(program, page.known.facts) == (page.outcome,)
