"""The least of many rows, where the number of one row tells how little others can have."""


def least_row(rows, judged):
    """The least number that any of some rows has, and the least row that has it.

    judged(row, others) tells the number of a row, and a dict with a floor for each of the others, which
    has no lesser number. Only rows that their floors do not bar are judged, those with the least floors
    first.
    """
    number, floors = judged(rows[0], rows[1:])
    least = (number, rows[0])
    while True:
        left = sorted([(floors[row], row) for row in floors if (floors[row], row) < least])
        if not left:
            return least
        row = left[0][1]
        number, further = judged(row, [other for floor, other in left[1:]])
        least = min(least, (number, row))
        floors = {other: max(floors[other], further[other]) for other in further}
