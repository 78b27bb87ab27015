"""The shelf: unlike goods, of which each person gets one or none."""

from truthtoll.common import MOST_TOLD, within_bounds, without
from truthtoll.errors import BadWorths

MOST_PEOPLE = 4
MOST_GOODS = 4


def shelf_best(worths):
    check_worths(worths)
    return first_best(worths, len(worths[0]))


def shelf_pays(worths):
    dealing = shelf_best(worths)[1]
    return [loss_of_others(worths, dealing, person) for person in range(len(worths))]


def shelf_gain(worths, person, truth):
    dealing = shelf_best(worths)[1]
    return good_worth(truth, dealing[person]) - loss_of_others(worths, dealing, person)


def check_worths(worths):
    if not 1 <= len(worths) <= MOST_PEOPLE:
        raise BadWorths(f"a shelf is for 1 to {MOST_PEOPLE} people")
    goods = len(worths[0])
    if not 1 <= goods <= MOST_GOODS:
        raise BadWorths(f"on a shelf lie 1 to {MOST_GOODS} goods")
    for row in worths:
        check_row(row, goods)


def check_row(row, goods):
    if len(row) != goods:
        raise BadWorths("each person tells a worth for each good")
    for worth in row:
        if not within_bounds(worth):
            raise BadWorths(f"a worth is a number from 0 to {MOST_TOLD}")


# The goods are counted apart from the worths, since the others of a lone person are nobody.
def first_best(worths, goods):
    # No worth is below 0, so the first dealing of all is always taken.
    greatest = -1
    best = []
    for dealing in all_dealings(len(worths), goods):
        worth = dealing_worth(worths, dealing)
        # Not >=: the dealings come in their order, and of equal ones the first is the best.
        if worth > greatest:
            greatest = worth
            best = dealing
    return (greatest, best)


# The order of the dealings matters: a lesser number at the first unlike place comes first.
def all_dealings(people, goods):
    dealings = [[]]
    for person in range(people):
        longer = []
        for dealing in dealings:
            longer.extend(dealings_with_one_more(dealing, goods))
        dealings = longer
    return dealings


def dealings_with_one_more(dealing, goods):
    free = [good for good in range(goods) if good not in dealing]
    return [dealing + [good] for good in [-1] + free]


def dealing_worth(worths, dealing):
    return sum([good_worth(row, good) for row, good in zip(worths, dealing)])


def good_worth(row, good):
    # As an index -1 would be the last good, not none.
    if good == -1:
        return 0
    return row[good]


def loss_of_others(worths, dealing, person):
    others = without(worths, person)
    greatest = first_best(others, len(worths[person]))[0]
    return greatest - dealing_worth(others, without(dealing, person))
