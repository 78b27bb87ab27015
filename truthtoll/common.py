"""What the shelf, the pile and the roads share."""

MOST_TOLD = 1000


# Worths and costs have the same bounds.
def within_bounds(told):
    return 0 <= told <= MOST_TOLD


def without(rows, place):
    return rows[:place] + rows[place + 1:]
