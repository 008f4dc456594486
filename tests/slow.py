"""Small nets made by chance, and what is told of them by trying all there is."""

import itertools
from fractions import Fraction

from likespans.nets import Net
from likespans.ways import base


def some_net(chance):
    """A net of few events and spans, and a short beat."""
    beat = chance.randint(3, 6)
    events = chance.randint(1, 4)
    spans = []
    for _ in range(chance.randint(0, 6) if events > 1 else 0):
        i, j = chance.sample(range(events), 2)
        low = chance.randint(0, 2 * beat)
        span = (i, j, low, low + chance.randint(0, beat - 2))
        if span not in spans:
            spans.append(span)
    return Net(beat, events, spans)


def slow_lengths(net, moments):
    """The lengths by trying each number within the bounds, None where some span has none."""
    row = []
    for i, j, low, high in net.spans:
        fit = [number for number in range(low, high + 1) if (moments[i] + number - moments[j]) % net.beat == 0]
        if not fit:
            return None
        row.append(fit[0])
    return tuple(row)


def slow_timetables(net):
    """All whole timetables."""
    found = itertools.product(range(net.beat), repeat=net.events)
    return [moments for moments in found if slow_lengths(net, moments) is not None]


def slow_sum(row, ring):
    """The sum of the lengths on a ring, with signs."""
    return sum([row[index] if forth else -row[index] for index, forth in ring])


def slow_is_likeness(net, moved, forth):
    """Whether each span is led to a span, by trying all spans."""
    for i, j, low, high in net.spans:
        aim = (moved[i], moved[j], low, high) if forth else (moved[j], moved[i], low, high)
        if not any(span == aim for span in net.spans):
            return False
    return True


def slow_likenesses(net):
    """All likenesses, going through all orders of the events."""
    orders = itertools.permutations(range(net.events))
    return [(moved, forth) for moved in orders for forth in (False, True) if slow_is_likeness(net, moved, forth)]


def slow_group(net, lot):
    """The likenesses that come of a lot, put one behind the other until no further one comes."""
    found = {(tuple(range(net.events)), True)}
    while True:
        more = set()
        for (one, ahead), (other, behind) in itertools.product(found, lot):
            more.add((tuple([other[one[event]] for event in range(net.events)]), ahead is behind))
        if more <= found:
            return sorted(found)
        found |= more


def slow_span_led(net, likeness, index):
    """The index of the span to which a span is led."""
    moved, forth = likeness
    i, j, low, high = net.spans[index]
    return net.spans.index((moved[i], moved[j], low, high) if forth else (moved[j], moved[i], low, high))


def slow_like_spans(net, lot):
    """The lists of the spans that are led to one another."""
    found = []
    for index in range(len(net.spans)):
        alike = sorted({slow_span_led(net, likeness, index) for likeness in slow_group(net, lot)})
        if alike not in found:
            found.append(alike)
    return found


def slow_ring_led(net, likeness, ring):
    """The ring to which a likeness leads a ring, step by step."""
    steps = [(slow_span_led(net, likeness, index), forth) for index, forth in ring]
    if not likeness[1]:
        steps.reverse()
    return tuple(steps)


def spans_alike(chance, net, lot):
    """Some spans between the events of a net, together with those to which a lot leads them."""
    spans = []
    # Nets have several islands where the bounds are wide.
    narrow = chance.choice([0, net.beat - 3])
    for _ in range(chance.randint(1, 3)):
        i, j = chance.sample(range(net.events), 2)
        low = chance.randint(0, net.beat)
        high = low + chance.randint(narrow, net.beat - 2)
        for moved, forth in slow_group(net, lot):
            one, other = (moved[i], moved[j]) if forth else (moved[j], moved[i])
            if (one, other, low, high) not in spans:
                spans.append((one, other, low, high))
    return spans


def alike_net(chance):
    """A net of few events and spans, and a lot of one or two likenesses of it."""
    while True:
        bare = Net(chance.randint(3, 6), chance.randint(2, 4), ())
        lot = []
        for _ in range(chance.randint(1, 2)):
            lot.append((tuple(chance.sample(range(bare.events), bare.events)), chance.random() < 0.5))
        spans = spans_alike(chance, bare, lot)
        # More spans would make more rows of rounds than can be gone over.
        if len(spans) <= 8:
            chance.shuffle(spans)
            return Net(bare.beat, bare.events, spans), lot


def even_slowly(net, lot, row):
    """Whether like spans have the same length."""
    return all(len({row[index] for index in alike}) == 1 for alike in slow_like_spans(net, lot))


def bent_row(chance, many, most):
    """So many prices that bend upward, with steps up to most in amount."""
    steps = sorted([chance.randint(-most, most) for _ in range(many - 1)])
    row = [chance.randint(-most, most)]
    for step in steps:
        row.append(row[-1] + step)
    return tuple(row)


def some_prices(chance, net, lot, most):
    """Prices of a net, made by chance, the same for like spans."""
    prices = [None] * len(net.spans)
    for alike in slow_like_spans(net, lot):
        low, high = net.spans[alike[0]][2:]
        row = bent_row(chance, high - low + 1, most)
        for index in alike:
            prices[index] = row
    return prices


def slow_cost(net, prices, row):
    """What lengths cost, each by the line through the two prices beside it, as a Fraction."""
    total = Fraction(0)
    for span, costs, number in zip(net.spans, prices, row):
        at = int(Fraction(number) // 1) - span[2]
        part = Fraction(number) - at - span[2]
        total += costs[at] if part == 0 else (1 - part) * costs[at] + part * costs[at + 1]
    return total


def slow_island(net, row):
    """The rounds of the rings of the base, where the spans have these lengths."""
    return tuple([slow_sum(row, ring) // net.beat for ring in base(net)])


def slow_bests(net, prices):
    """For each island the least cost of its whole timetables."""
    found = {}
    for moments in slow_timetables(net):
        row = slow_lengths(net, moments)
        island = slow_island(net, row)
        number = slow_cost(net, prices, row)
        found[island] = min(found.get(island, number), number)
    return found
