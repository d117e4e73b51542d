"""Acts: rights that act again and again, on late news."""

from weirkeepers.checks import is_natural, need_right
from weirkeepers.errors import NotTurn
from weirkeepers.keepers import all_keepers, need_amounts, stepped


def _need_turns(rights, names, ages):
    """Raises NotTurn for the first name that is no right, then for the first key that is none or has no age."""
    for name in names:
        if name not in rights:
            raise NotTurn(name)
    for name in ages:
        if name not in rights or not is_natural(ages[name]):
            raise NotTurn(name)


def _heard(states, name, age):
    """What the right has in the state that is heard at this age."""
    return states[max(0, len(states) - 1 - age)][name]


def _all_heard(states, ages):
    """A dict of what every right has in the state that is heard at its age."""
    return {name: _heard(states, name, ages.get(name, 0)) for name in states[0]}


class Rounds:
    """Amounts that rights change by acts; the last act can be undone."""

    TOP = 121

    def __init__(self, book, day, start):
        need_amounts(book.rights, start)
        self.book = book
        self.day = day
        self._keepers = all_keepers(book, day)
        self._states = [{name: start[name] for name in book.rights.names}]
        self._grades = [{name: 0 for name in book.rights.names}]

    def _new_grade(self, name, grades):
        """The grade of what the right gets by amounts of these grades."""
        return min([Rounds.TOP] + [grades[other] + 1 for other in self._keepers[name].heeds])

    def act(self, *names, ages=None):
        """The named rights act, or all; returns the tuple of those whose amount changed."""
        heard_at = {} if ages is None else ages
        _need_turns(self.book.rights, names, heard_at)
        heard = _all_heard(self._states, heard_at)
        heard_grades = _all_heard(self._grades, heard_at)
        before = self._states[-1]
        amounts = dict(before)
        grades = dict(self._grades[-1])
        for name in names if names else self.book.rights.names:
            amounts[name] = self._keepers[name].given(heard)
            grades[name] = self._new_grade(name, heard_grades)
        self._states.append(amounts)
        self._grades.append(grades)
        return tuple([name for name in amounts if amounts[name] != before[name]])

    def undo(self):
        """Takes the last act back; False if there is none."""
        if len(self._states) == 1:
            return False
        self._states.pop()
        self._grades.pop()
        return True

    @property
    def acts(self):
        """The number of acts that have been made and not taken back."""
        return len(self._states) - 1

    def now(self):
        """A dict of the amounts of the last state."""
        return dict(self._states[-1])

    def history(self):
        """A list of the amounts of all states."""
        return [dict(state) for state in self._states]

    def _need_age(self, name, age):
        """Raises an error if there is no such right, or the age is none."""
        need_right(self.book.rights, name)
        if not is_natural(age):
            raise NotTurn(name)

    def amount(self, name, age=0):
        """The amount of the right that is heard at this age."""
        self._need_age(name, age)
        return _heard(self._states, name, age)

    def grade(self, name, age=0):
        """The grade of the amount that is heard at this age."""
        self._need_age(name, age)
        return _heard(self._grades, name, age)

    @property
    def sweeps(self):
        """The least grade of the last state."""
        return min(self._grades[-1].values(), default=Rounds.TOP)

    def is_at_rest(self):
        """True if all keepers would give the amounts of the last state again."""
        return stepped(self._keepers, self._states[-1]) == self._states[-1]


def swing(book, day, start, *, most=200):
    """The tuple (before, length) of a swing that all rights come to at once, or None if it comes too late."""
    need_amounts(book.rights, start)
    keepers = all_keepers(book, day)
    amounts = {name: start[name] for name in keepers}
    seen = {}
    while len(seen) <= most:
        state = tuple(amounts.values())
        if state in seen:
            return seen[state], len(seen) - seen[state]
        seen[state] = len(seen)
        amounts = stepped(keepers, amounts)
    return None
