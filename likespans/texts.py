"""Texts of numbers, nets, timetables and likenesses, and what is read from them."""

from likespans.errors import BadLikeness, BadNumber, BadText, BadTimetable
from likespans.likes import check_likeness, is_likeness
from likespans.nets import Net
from likespans.ratios import Ratio, is_number, plain
from likespans.timetables import is_timetable
from likespans.words import are_counts, is_digits

FORTH = "forth"
MIRROR = "mirror"
# The words with which the rows of a net begin, and how many numbers stand behind them.
HEADS = (("beat", 1), ("events", 1))
SPAN = ("span", 4)


def number_text(number):
    """A number as a text: an integer as it is, others as top/bottom."""
    if not is_number(number):
        raise BadNumber(number)
    number = plain(number)
    return f"{number.top}/{number.bottom}" if isinstance(number, Ratio) else str(number)


def read_number(word):
    """The number that number_text writes so, None if it writes none so."""
    negative = word.startswith("-")
    parts = (word[1:] if negative else word).split("/")
    if len(parts) > 2 or not all([is_digits(part) for part in parts]):
        return None
    bottom = int(parts[1]) if len(parts) == 2 else 1
    if bottom == 0:
        return None
    number = plain(Ratio(-int(parts[0]) if negative else int(parts[0]), bottom))
    return number if number_text(number) == word else None


def net_text(net):
    """The rows of a net: its beat, its number of events, and its spans."""
    rows = [f"beat {net.beat}", f"events {net.events}"]
    return "\n".join(rows + [f"span {i} {j} {low} {high}" for i, j, low, high in net.spans])


def read_row(row, head):
    """The tuple of the numbers behind the word with which a row begins, None if it is not written so."""
    words = row.split(" ")
    if words[0] != head[0] or len(words) != head[1] + 1 or not are_counts(words[1:]):
        return None
    return tuple([int(word) for word in words[1:]])


def check_text(text):
    """Raises an error if a thing is no string."""
    if not isinstance(text, str):
        raise BadText(-1)


def read_net(text):
    """The net that is told by rows."""
    check_text(text)
    rows = text.split("\n")
    told = []
    for index in range(max(len(rows), len(HEADS))):
        head = HEADS[index] if index < len(HEADS) else SPAN
        numbers = read_row(rows[index], head) if index < len(rows) else None
        if numbers is None:
            raise BadText(index)
        told.append(numbers)
    return Net(told[0][0], told[1][0], told[2:])


def timetable_text(net, timetable):
    """The moments of a timetable, with blanks between."""
    if not is_timetable(net, timetable):
        raise BadTimetable()
    return " ".join([number_text(moment) for moment in timetable])


def read_timetable(net, text):
    """The timetable that is told by its moments."""
    check_text(text)
    moments = [read_number(word) for word in text.split(" ")]
    if any([moment is None for moment in moments]):
        raise BadText(0)
    if not is_timetable(net, tuple(moments)):
        raise BadTimetable()
    return tuple(moments)


def likeness_text(net, likeness):
    """The events to which a likeness leads the events, and whether it is forth or a mirror."""
    check_likeness(net, likeness)
    moved, forth = likeness
    return " ".join([str(event) for event in moved] + [FORTH if forth else MIRROR])


def read_likeness(net, text):
    """The likeness that is told by its events and a word."""
    check_text(text)
    words = text.split(" ")
    if words[-1] not in (FORTH, MIRROR) or not are_counts(words[:-1]):
        raise BadText(0)
    likeness = (tuple([int(word) for word in words[:-1]]), words[-1] == FORTH)
    if not is_likeness(net, likeness):
        raise BadLikeness()
    return likeness
