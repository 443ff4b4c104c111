"""Houses: cases that are decided by asking an outside, and the book of what was decided."""

from onlyasked.book import is_settled, page_for, stands
from onlyasked.errors import BadWorlds, Begun, NoCase, NoPage, NothingToUndo, OtherSources
from onlyasked.memory import (
    has_good, held_of, is_good, known_at, together, until_of, with_answer, without_source,
)
from onlyasked.outside import refuse_no_source, refuse_no_subject
from onlyasked.prices import Prices
from onlyasked.rounds import asks_of_round, comes_later, comes_now, is_made, known_by, words_of_round
from onlyasked.settling import refuse_impossible
from onlyasked.sources import part_named, source_forms, terms
from onlyasked.trials import Trial
from onlyasked.worlds import is_world


def same_sources(one, other):
    """Whether the sources of two programs are the same, with their prices, stays and common."""
    return source_forms(one) == source_forms(other) and terms(one) == terms(other)


def without(names, name):
    """Names but for one of them."""
    return tuple([one for one in names if one != name])


class House:
    """A house, with the properties program, outside, spent, cases and pages.

    For the package it also has: rows; own, for each open case what is held (memory.py) of the sources that are not
    common; commons, what is held of the common ones; rests, for each decided subject what is held of its page; coming,
    what is on its way, as tuples (source, subject, until, answer), the subject of a common source being None; revised,
    for each revise that was not taken back a pair of the program ahead of it and the subjects that undo would decide
    again by their pages; prices, which knows the least prices of standings.
    """

    def __init__(self, outside, *, rows=False):
        self.outside = outside
        self.program = outside.program
        self.rows = rows
        self.spent = 0
        self.pages = ()
        self.own = {}
        self.commons = {}
        self.rests = {}
        self.coming = ()
        self.revised = ()
        self.prices = Prices(self.program, rows)

    @property
    def cases(self):
        """The open subjects, ascending."""
        return tuple(sorted(list(self.own)))

    def begin(self, subject):
        """Opens a case; NoSubject, Begun."""
        refuse_no_subject(self.outside, subject)
        if subject in self.own or subject in self.rests:
            raise Begun(subject)
        self.own[subject] = {}
        self._decide((subject,))

    def standing(self, subject):
        """What is known in an open case; NoCase."""
        self._refuse_no_case(subject)
        return known_at(together(self.commons, self.own[subject]), self.outside.time)

    def told(self, subject):
        """The price of the plan of an open case; NoCase."""
        known = self.standing(subject)
        refuse_impossible(self.program, known.facts)
        return self.prices.least(known)

    def first_ask(self, subject):
        """The sources that the plan of an open case asks first; NoCase."""
        known = self.standing(subject)
        refuse_impossible(self.program, known.facts)
        return self.prices.first_ask(known)

    def go(self, troubles=()):
        """A round with these troubles; returns (source, subject, word) for all asks."""
        # What is asked goes by the standings ahead of the tick.
        wishes = [(subject, self.first_ask(subject)) for subject in self.cases]
        self.outside.tick()
        coming = self.coming
        self.coming = ()
        self._learn(coming)
        self._decide(self.cases)
        asks = asks_of_round(self.program, [wish for wish in wishes if wish[0] in self.own])
        words = words_of_round(len(asks), troubles)
        self._learn(self._ask(asks, words))
        self._decide(self.cases)
        return tuple([(part.name, known_by(part, subject), word) for (part, subject), word in zip(asks, words)])

    def page(self, subject):
        """The decision of a subject; NoPage."""
        self._refuse_no_page(subject)
        return self._last_page(subject)

    def rest(self, subject):
        """What of the facts of a decision is good now; NoPage."""
        self._refuse_no_page(subject)
        return known_at(self.rests[subject], self.outside.time)

    def revise(self, program):
        """Takes another program; returns the subjects whose decisions stand, and those that are opened.

        OtherSources, BadWorlds.
        """
        if not same_sources(program, self.program):
            raise OtherSources(None)
        self._refuse_other_worlds(program)
        before = self.program
        found = self._turn(program, ())
        # What is decided at once is not open since, so this stands ahead of it.
        self.revised = (*self.revised, (before, found[1]))
        self._decide(self.cases)
        return found

    def news(self, source, subject):
        """Forgets an answer that is no longer true; returns the subjects that are opened by it; NoSource, NoSubject."""
        refuse_no_source(self.outside, source)
        refuse_no_subject(self.outside, subject)
        part = part_named(self.program, source)
        subjects = self.outside.subjects if part.common else (subject,)
        self.revised = tuple([(program, self._untouched(again, part, subjects)) for program, again in self.revised])
        self.coming = tuple([one for one in self.coming if one[:2] != (source, known_by(part, subject))])
        if part.common:
            self.commons = without_source(self.commons, part)
        elif subject in self.own:
            self.own[subject] = without_source(self.own[subject], part)
        opened = [name for name in subjects if name in self.rests and self._is_good_of(self.rests[name], part)]
        for name in opened:
            self.rests[name] = without_source(self.rests[name], part)
            self._open(name)
        self._decide(opened)
        return tuple(opened)

    def again(self, subject):
        """Opens a decided subject once more; NoPage."""
        self._refuse_no_page(subject)
        self._open(subject)
        self._decide((subject,))

    def undo(self):
        """Takes the last revise back; returns as revise; NothingToUndo, BadWorlds."""
        if not self.revised:
            raise NothingToUndo(None)
        program, again = self.revised[-1]
        self._refuse_other_worlds(program)
        self.revised = self.revised[:-1]
        for subject in again:
            self._close(subject, self._page_held(subject))
        found = self._turn(program, again)
        self._decide(self.cases)
        return found

    def trial(self):
        """A context manager that binds a house of its own with copies of all."""
        return Trial(self)

    def tried(self, look):
        """What a function returns for such a house."""
        return look(self.twin())

    def twin(self):
        """A house of its own with copies of all."""
        twin = House(self.outside.copy(), rows=self.rows)
        twin.spent = self.spent
        twin.pages = self.pages
        twin.own = {subject: self.own[subject] for subject in self.own}
        twin.commons = self.commons
        twin.rests = {subject: self.rests[subject] for subject in self.rests}
        twin.coming = self.coming
        twin.revised = self.revised
        twin.prices = self.prices
        return twin

    def _refuse_no_case(self, value):
        if not isinstance(value, str) or value not in self.own:
            raise NoCase(value)

    def _refuse_no_page(self, value):
        if not isinstance(value, str) or value not in self.rests:
            raise NoPage(value)

    def _refuse_other_worlds(self, program):
        others = [subject for subject in self.outside.subjects if not is_world(program, self.outside.truth(subject))]
        if others:
            raise BadWorlds(tuple(others))

    def _learn(self, answers):
        """Takes answers that come, tuples as in coming, as far as they are good and somebody wants them."""
        for source, subject, until, answer in answers:
            part = part_named(self.program, source)
            if not is_good(until, self.outside.time):
                continue
            if part.common:
                self.commons = with_answer(self.commons, part, answer, until)
            elif subject in self.own:
                self.own[subject] = with_answer(self.own[subject], part, answer, until)

    def _ask(self, asks, words):
        """Makes the asks of a round; returns the answers that come at once, the others are on their way."""
        found = []
        for (part, subject), word in zip(asks, words):
            if not is_made(word):
                continue
            answer = self.outside.ask(part.name, subject)
            self.spent += part.price
            told = (part.name, known_by(part, subject), until_of(self.outside.time, part.stay), answer)
            if comes_now(word, words):
                found.append(told)
            if comes_later(word, words):
                self.coming = (*self.coming, told)
        if any([is_made(word) for word in words]):
            self.spent += self.program.round_price
        return found

    def _decide(self, subjects):
        """Writes pages for those of these open subjects, ascending, that are settled."""
        for subject in subjects:
            known = self.standing(subject)
            if is_settled(self.program, known, self.rows):
                page = page_for(self.program, self.rows, subject, self.outside.time, known)
                self.pages = (*self.pages, page)
                self._close(subject, self._page_held(subject))

    def _last_page(self, subject):
        return [page for page in self.pages if page.subject == subject][-1]

    def _page_held(self, subject):
        """What is held by the last page of a subject."""
        page = self._last_page(subject)
        # The text of a house may tell of pages that are yet to come: they are taken as of now.
        return held_of(page.known, min(page.time, self.outside.time))

    def _close(self, subject, held):
        """Makes an open subject a decided one, of whose page so much is left."""
        del self.own[subject]
        self.rests[subject] = held
        self.revised = tuple([(program, without(again, subject)) for program, again in self.revised])

    def _open(self, subject):
        """Makes a decided subject an open one that knows its rest; of common sources it knows what the house knows."""
        held = self.rests[subject]
        for part in self.program.parts:
            held = without_source(held, part) if part.common else held
        self.own[subject] = held
        del self.rests[subject]

    def _turn(self, program, again):
        """Takes a program and opens the decisions that do not stand, but for those of some subjects."""
        outside = self.outside
        outside.program = program
        self.program = program
        self.prices = Prices(program, self.rows)
        decided = sorted(list(self.rests))
        kept = [name for name in decided if name in again or stands(program, self._last_page(name))]
        opened = [name for name in decided if name not in kept]
        for name in opened:
            self._open(name)
        return (tuple(kept), tuple(opened))

    def _is_good_of(self, held, part):
        """Whether some fact of a source is held that is good now."""
        return has_good(held, part, self.outside.time)

    def _untouched(self, again, part, subjects):
        """Those of whose pages news of a source for some subjects takes nothing that is still good."""
        touched = [name for name in subjects if name in again and self._is_good_of(self._page_held(name), part)]
        return tuple([name for name in again if name not in touched])
