"""Programs as texts: NAME:TICKS for a line, ROUNDS*(ITEMS) for a loop, with one space between items.

A reading function takes as much as the limits of a program allow, and its caller then asks for what must follow.
So the first place at which nothing fits is that of the first character with which no text of a program begins.
"""

from evensamples.errors import BadText
from evensamples.integers import decimal
from evensamples.programs import MOST_BESIDE, MOST_DEEP, MOST_ITEMS, MOST_LETTERS, MOST_ROUNDS, MOST_TICKS


def show_program(program):
    """Return the text of a program."""
    return " ".join([item_text(item) for item in program])


def read_program(text):
    """Return the program so written; raise BadText for any other value."""
    if not isinstance(text, str):
        raise BadText(0)
    items, at, room = read_items(text, 0, MOST_DEEP, MOST_ITEMS)
    if at < len(text):
        raise BadText(at)
    return items


def item_text(item):
    """Return the text of an item."""
    kind, first, second = item
    if kind == "line":
        return f"{first}:{decimal(second)}"
    return f"{decimal(first)}*({show_program(second)})"


def read_items(text, at, depth, room):
    """Return the items that begin at this place, the place behind them, and how much of the room is left.

    Loops among the items may be nested depth deep, and room is the number of items that the program can still take.
    """
    item, at, room = read_item(text, at, depth, room)
    items = [item]
    while text[at:at + 1] == " " and len(items) < MOST_BESIDE and room > 0:
        item, at, room = read_item(text, at + 1, depth, room)
        items.append(item)
    return tuple(items), at, room


def read_item(text, at, depth, room):
    """Return the same as read_items, for one item; there is room for one."""
    if is_letter(text[at:at + 1]):
        name, at = read_name(text, at)
        ticks, at = read_number(text, behind(text, at, ":"), MOST_TICKS)
        return ("line", name, ticks), at, room - 1
    # A loop needs room for itself and for an item inside.
    if depth == 0 or room < 2:
        raise BadText(at)
    rounds, at = read_number(text, at, MOST_ROUNDS)
    items, at, room = read_items(text, behind(text, at, "*("), depth - 1, room - 1)
    return ("loop", rounds, items), behind(text, at, ")"), room


def read_name(text, at):
    """Return the name that begins at this place with a letter, and the place behind it."""
    stop = at + 1
    while is_letter(text[stop:stop + 1]) and stop - at < MOST_LETTERS:
        stop += 1
    return text[at:stop], stop


def read_number(text, at, most):
    """Return the number from 1 to most that begins at this place, and the place behind it."""
    if not "1" <= text[at:at + 1] <= "9":
        raise BadText(at)
    number = 0
    while "0" <= text[at:at + 1] <= "9" and number * 10 + int(text[at]) <= most:
        number = number * 10 + int(text[at])
        at += 1
    return number, at


def is_letter(text):
    """Return whether a text of at most one character is a letter from a to z."""
    return "a" <= text <= "z"


def behind(text, at, signs):
    """Return the place behind the signs, which must stand at this place."""
    for sign in signs:
        if text[at:at + 1] != sign:
            raise BadText(at)
        at += 1
    return at
