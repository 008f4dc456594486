"""The rows of a plan, and what they tell: lines, bounds of halts and turns, and spans between lines."""

from likespans.errors import BadText
from likespans.words import are_counts, is_name

OUT = "out"
HOME = "home"
ARRIVAL = "arr"
DEPARTURE = "dep"
FEWEST_PLACES = 2
MOST_PLACES = 6
USUAL_BOUNDS = (1, 2)


class Told:
    """What the rows of a plan have told so far.

    For each line there are its places and the bounds of the runs between them; for a line and a place the
    bounds of its halts or its turn there; for each span between lines its two ends and its bounds.
    """

    def __init__(self):
        self.beat = 0
        self.routes = {}
        self.stays = {}
        self.links = []


def way_stops(way, places):
    """What a line does on one way, in order: at each place its arrival, then its departure."""
    found = []
    for at, place in enumerate(places):
        if at > 0:
            found.append((way, place, ARRIVAL))
        if at < len(places) - 1:
            found.append((way, place, DEPARTURE))
    return found


def line_stops(places):
    """What a line does out, then home."""
    return way_stops(OUT, places) + way_stops(HOME, places[::-1])


def bounds_of(words):
    """The bounds that two words tell, None if they are no numbers."""
    return (int(words[0]), int(words[1])) if are_counts(words) else None


def take_beat(told, words):
    """Takes the words behind `beat`; whether they are written so."""
    if len(words) != 1 or not are_counts(words):
        return False
    told.beat = int(words[0])
    return True


def take_line(told, words):
    """Takes the words behind `line`: a name, and places with the bounds of the runs between them."""
    places = words[1::3]
    runs = list(zip(words[2::3], words[3::3]))
    if len(words) % 3 != 2 or not FEWEST_PLACES <= len(places) <= MOST_PLACES:
        return False
    if not all([is_name(word) for word in words[:1] + places]) or words[0] in told.routes:
        return False
    if len(set(places)) < len(places) or not all([are_counts(run) for run in runs]):
        return False
    told.routes[words[0]] = (tuple(places), [bounds_of(run) for run in runs])
    return True


def take_stay(told, words, inner):
    """Takes the words behind `halt`, at an inner place of a line, or behind `turn`, at an end."""
    if len(words) != 4 or words[0] not in told.routes:
        return False
    places = told.routes[words[0]][0]
    bounds = bounds_of(words[2:])
    if bounds is None or words[1] not in (places[1:-1] if inner else (places[0], places[-1])):
        return False
    told.stays[(words[0], words[1])] = bounds
    return True


def take_halt(told, words):
    """Takes the words behind `halt`; whether they are written so."""
    return take_stay(told, words, True)


def take_turn(told, words):
    """Takes the words behind `turn`; whether they are written so."""
    return take_stay(told, words, False)


def link_ends(told, words, kind):
    """What the one line does on its way at a place, and the departure there of the other one; None if it is none."""
    one, way, other, other_way, place = words
    if (one, way) == (other, other_way):
        return None
    ends = ((one, way, place, kind), (other, other_way, place, DEPARTURE))
    for name, stop in [(end[0], end[1:]) for end in ends]:
        if name not in told.routes or stop not in line_stops(told.routes[name][0]):
            return None
    return ends


def take_change(told, words):
    """Takes the words behind `change`; whether they are written so."""
    if len(words) != 7 or not are_counts(words[5:]):
        return False
    ends = link_ends(told, words[:5], ARRIVAL)
    if ends is not None:
        told.links.append(ends + (bounds_of(words[5:]),))
    return ends is not None


def take_apart(told, words):
    """Takes the words behind `apart`; whether they are written so."""
    if len(words) != 6 or not are_counts(words[5:]):
        return False
    ends = link_ends(told, words[:5], DEPARTURE)
    if ends is not None:
        least = int(words[5])
        told.links.append(ends + ((least, told.beat - least),))
    return ends is not None


# What takes a row behind the first one, by its first word.
TAKERS = {"line": take_line, "halt": take_halt, "turn": take_turn, "change": take_change, "apart": take_apart}


def take_row(told, index, row):
    """Takes a row; whether it is written as it should be there."""
    words = row.split(" ")
    if index == 0:
        return words[0] == "beat" and take_beat(told, words[1:])
    if words[0] not in TAKERS:
        return False
    taker = TAKERS[words[0]]
    return taker(told, words[1:])


def read_plan(text):
    """What the rows of a plan tell."""
    told = Told()
    for index, row in enumerate(text.split("\n")):
        if not take_row(told, index, row):
            raise BadText(index)
    return told


def way_spans(told, name, places, runs, first, behind):
    """The spans of a line on one way, from its first event on: runs, halts, the turn to the event behind."""
    spans = []
    for at, bounds in enumerate(runs):
        spans.append((first + 2 * at, first + 2 * at + 1) + bounds)
    for at, place in enumerate(places[1:-1]):
        spans.append((first + 2 * at + 1, first + 2 * at + 2) + told.stays.get((name, place), USUAL_BOUNDS))
    stay = told.stays.get((name, places[-1]), USUAL_BOUNDS)
    return spans + [(first + 2 * len(runs) - 1, behind) + stay]


def line_spans(told, name, first):
    """The spans of a line whose first event is told."""
    places, runs = told.routes[name]
    middle = first + 2 * len(runs)
    out = way_spans(told, name, places, runs, first, middle)
    return out + way_spans(told, name, places[::-1], runs[::-1], middle, first)


def all_stops(told):
    """What each event is: the name of its line, its way, its place, arrival or departure."""
    return [(name,) + stop for name in told.routes for stop in line_stops(told.routes[name][0])]


def all_spans(told):
    """The spans of all lines, then those between lines, each once."""
    numbers = {stop: number for number, stop in enumerate(all_stops(told))}
    spans = []
    for name in told.routes:
        first = numbers[(name, OUT, told.routes[name][0][0], DEPARTURE)]
        spans = spans + line_spans(told, name, first)
    for one, other, bounds in told.links:
        spans.append((numbers[one], numbers[other]) + bounds)
    found = {span: True for span in spans}
    return list(found)
