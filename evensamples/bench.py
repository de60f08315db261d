"""A program that is edited, item by item, and whose changes can be taken back."""

from evensamples.errors import BadIndex, BadItem, BadProgram, LastItem, NothingToUndo
from evensamples.integers import is_integer_within
from evensamples.looks import looks
from evensamples.programs import is_program, length, totals
from evensamples.safety import is_safe


class Bench:
    """A program that is edited. An index is that of an item of the program itself, not of one within a loop."""

    def __init__(self, program):
        if not is_program(program):
            raise BadProgram(program)
        self.current = program
        # The programs ahead of each change; they are tuples throughout, so nothing can change them.
        self.earlier = []

    def __eq__(self, other):
        return isinstance(other, Bench) and self.current == other.current

    def program(self):
        """Return the program."""
        return self.current

    def length(self):
        """Return the length of the program."""
        return length(self.current)

    def totals(self):
        """Return the totals of the program."""
        return totals(self.current)

    def insert(self, index, item):
        """Insert an item ahead of the one at the index, or at the end; raise BadIndex or BadItem."""
        check_index(index, 0, len(self.current))
        self.put(index, index, item)

    def replace(self, index, item):
        """Replace the item at the index; raise BadIndex or BadItem."""
        check_index(index, 0, len(self.current) - 1)
        self.put(index, index + 1, item)

    def delete(self, index):
        """Remove the item at the index and return it; raise BadIndex or LastItem."""
        check_index(index, 0, len(self.current) - 1)
        if len(self.current) == 1:
            raise LastItem()
        item = self.current[index]
        self.change(self.current[:index] + self.current[index + 1:])
        return item

    def wrap(self, first, stop, rounds):
        """Replace the items from first up to, but not including, stop by a loop of them; raise BadIndex or BadItem."""
        check_index(first, 0, len(self.current) - 1)
        check_index(stop, first + 1, len(self.current))
        self.put(first, stop, ("loop", rounds, self.current[first:stop]))

    def undo(self):
        """Take back the last change that has not been taken back; raise NothingToUndo."""
        if len(self.earlier) == 0:
            raise NothingToUndo()
        self.current = self.earlier.pop()

    def changes(self):
        """Return how many changes can be taken back."""
        return len(self.earlier)

    def safe(self, period):
        """Return whether the period is safe for the program; raise TooLarge."""
        return is_safe(self.current, period)

    def looks(self, period, start):
        """Return (name, count) for all lines, ascending: how many looks of the sampler see the line."""
        return looks(self.current, period, start)

    def copy(self):
        """Return an independent bench with the same program and changes."""
        twin = Bench(self.current)
        twin.earlier = list(self.earlier)
        return twin

    def put(self, first, stop, item):
        """Put an item in place of those from first up to, but not including, stop; raise BadItem."""
        program = self.current[:first] + (item,) + self.current[stop:]
        if not is_program(program):
            raise BadItem(item)
        self.change(program)

    def change(self, program):
        """Go on with another program, and keep the one at hand for undo."""
        self.earlier.append(self.current)
        self.current = program


def check_index(value, least, most):
    """Raise BadIndex if the value, any value, is not an integer from least to most."""
    if not is_integer_within(value, least, most):
        raise BadIndex(value)
