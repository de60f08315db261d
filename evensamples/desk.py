"""A bench that is worked with by lines of text."""

from evensamples.bench import Bench
from evensamples.bias import most_biased, share
from evensamples.errors import BadCommand, BadText
from evensamples.looks import seen
from evensamples.padding import least_padding
from evensamples.programs import is_name
from evensamples.safety import blockers, count_safe, density, next_safe
from evensamples.texts import read_program, show_program

MOST_DIGITS = 31

# What stands behind the first word of a line: an item, a name, or a number within bounds.
FORMS = {
    "insert": ("index", "item"),
    "replace": ("index", "item"),
    "delete": ("index",),
    "undo": (),
    "show": (),
    "length": (),
    "totals": (),
    "looks": ("short period", "start"),
    "seen": ("short period", "start", "looks"),
    "safe": ("period",),
    "blockers": (),
    "next": ("period",),
    "count": ("most",),
    "density": (),
    "share": ("name",),
    "bias": ("period", "name"),
    "pad": ("short period",),
}
BOUNDS = {
    "index": (0, 10 ** 31 - 1),
    "start": (0, 10 ** 31 - 1),
    "short period": (1, 2000),
    "period": (1, 10 ** 30),
    "looks": (0, 10 ** 18),
    "most": (0, 10 ** 30),
}


def insert_item(bench, index, item):
    """Insert an item ahead of the one at the index."""
    bench.insert(index, item)
    return "ok"


def replace_item(bench, index, item):
    """Replace the item at the index."""
    bench.replace(index, item)
    return "ok"


def delete_item(bench, index):
    """Remove the item at the index."""
    bench.delete(index)
    return "ok"


def undo_change(bench):
    """Take back the last change."""
    bench.undo()
    return "ok"


def tell_program(bench):
    """Return the text of the program."""
    return show_program(bench.program())


def tell_length(bench):
    """Return the length."""
    return str(bench.length())


def tell_totals(bench):
    """Return the ticks of each line."""
    return counts_text(bench.totals())


def tell_looks(bench, period, start):
    """Return how many looks see each line."""
    return counts_text(bench.looks(period, start))


def tell_seen(bench, period, start, count):
    """Return how many of the first looks at the program repeated see each line."""
    return counts_text(seen(bench.program(), period, start, count))


def tell_safe(bench, period):
    """Return whether the period is safe."""
    return "yes" if bench.safe(period) else "no"


def tell_blockers(bench):
    """Return the blockers."""
    found = blockers(bench.program())
    return " ".join([str(blocker) for blocker in found]) if len(found) > 0 else "-"


def tell_next(bench, bound):
    """Return the least safe period that is at least bound."""
    return str(next_safe(bench.program(), bound))


def tell_count(bench, most):
    """Return how many safe periods are at most most."""
    return str(count_safe(bench.program(), most))


def tell_density(bench):
    """Return the share of the safe periods."""
    return fraction_text(density(bench.program()))


def tell_share(bench, name):
    """Return the share of a line."""
    return fraction_text(share(bench.program(), name))


def tell_bias(bench, period, name):
    """Return the most misleading start for a line, and its error."""
    start, error = most_biased(bench.program(), period, name)
    return f"{start} {fraction_text(error)}"


def tell_padding(bench, period):
    """Return the least padding."""
    return str(least_padding(bench.program(), period))


ACTIONS = {
    "insert": insert_item,
    "replace": replace_item,
    "delete": delete_item,
    "undo": undo_change,
    "show": tell_program,
    "length": tell_length,
    "totals": tell_totals,
    "looks": tell_looks,
    "seen": tell_seen,
    "safe": tell_safe,
    "blockers": tell_blockers,
    "next": tell_next,
    "count": tell_count,
    "density": tell_density,
    "share": tell_share,
    "bias": tell_bias,
    "pad": tell_padding,
}


class Desk:
    """A bench with the program that a text gives; raises BadText."""

    def __init__(self, text):
        self.bench = Bench(read_program(text))

    def run(self, line):
        """Carry out a line and return the answer; raise BadCommand, or what the functions and methods raise."""
        word, arguments = parts_of(line)
        action = ACTIONS[word]
        return action(self.bench, *arguments)


def counts_text(pairs):
    """Return the text of (name, count) pairs."""
    return " ".join([f"{name}={count}" for name, count in pairs])


def fraction_text(fraction):
    """Return the text of a fraction."""
    numerator, denominator = fraction
    return f"{numerator}/{denominator}"


def parts_of(line):
    """Return the first word of the line and the list of the arguments behind it; raise BadCommand."""
    if not isinstance(line, str):
        raise BadCommand(line)
    word, *others = line.split(" ")
    if word not in FORMS:
        raise BadCommand(line)
    kinds = FORMS[word]
    if "item" in kinds:
        # The text of an item may contain spaces: it is all that follows the words ahead of it.
        ahead = len(kinds) - 1
        others = others[:ahead] + [" ".join(others[ahead:])]
    if len(others) != len(kinds):
        raise BadCommand(line)
    arguments = [argument_of(kind, text) for kind, text in zip(kinds, others)]
    if any([argument is None for argument in arguments]):
        raise BadCommand(line)
    return word, arguments


def argument_of(kind, text):
    """Return what a text of this kind stands for, None if it is not of this kind."""
    if kind == "item":
        return item_of(text)
    if kind == "name":
        return text if is_name(text) else None
    least, most = BOUNDS[kind]
    return number_of(text, least, most)


def item_of(text):
    """Return the item so written, None if the text is not that of one item that alone is a program."""
    try:
        items = read_program(text)
    except BadText:
        return None
    return items[0] if len(items) == 1 else None


def number_of(text, least, most):
    """Return the number so written, None if the text is not that of a number from least to most."""
    if not 1 <= len(text) <= MOST_DIGITS or not all(["0" <= digit <= "9" for digit in text]):
        return None
    if text[0] == "0" and len(text) > 1:
        return None
    number = int(text)
    return number if least <= number <= most else None
