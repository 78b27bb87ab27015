"""The pile: like pieces, of which each person gets some or none."""

from truthtoll.common import MOST_TOLD, within_bounds, without
from truthtoll.errors import BadWorths

MOST_PEOPLE = 5
MOST_WORTHS = 5
MOST_PIECES = 12


def pile_best(pieces, worths):
    check_worths(worths)
    check_pieces(pieces)
    return first_best(pieces, worths)


def pile_pays(pieces, worths):
    dealing = pile_best(pieces, worths)[1]
    return [loss_of_others(pieces, worths, dealing, person) for person in range(len(worths))]


def pile_gain(pieces, worths, person, truth):
    dealing = pile_best(pieces, worths)[1]
    return pieces_worth(truth, dealing[person]) - loss_of_others(pieces, worths, dealing, person)


def check_worths(worths):
    if not 1 <= len(worths) <= MOST_PEOPLE:
        raise BadWorths(f"a pile is for 1 to {MOST_PEOPLE} people")
    for row in worths:
        check_row(row)


def check_row(row):
    if len(row) > MOST_WORTHS:
        raise BadWorths(f"a person tells at most {MOST_WORTHS} worths")
    for worth in row:
        if not within_bounds(worth):
            raise BadWorths(f"a worth is a number from 0 to {MOST_TOLD}")
    for ahead, worth in zip(row, row[1:]):
        if worth > ahead:
            raise BadWorths("no worth is greater than the one ahead")


def check_pieces(pieces):
    if not 0 <= pieces <= MOST_PIECES:
        raise BadWorths(f"in a pile lie 0 to {MOST_PIECES} pieces")


# The greatest worths of all are dealt. They are the first ones of each row, since no row rises.
def first_best(pieces, worths):
    wanted = []
    for person, row in enumerate(worths):
        # Dealing a piece that is worth nothing adds no worth, and the dealing without it is first.
        wanted.extend([(worth, person) for worth in row if worth > 0])
    # Of equal worths the later person's goes ahead: the dealing that gives the earlier person less is first.
    dealt = sorted(wanted, reverse=True)[:pieces]
    getters = [person for worth, person in dealt]
    dealing = [getters.count(person) for person in range(len(worths))]
    return (sum([worth for worth, person in dealt]), dealing)


def dealing_worth(worths, dealing):
    return sum([pieces_worth(row, count) for row, count in zip(worths, dealing)])


def pieces_worth(row, count):
    # A truth may be shorter than the told row; the pieces beyond its end are worth nothing.
    return sum(row[:count])


def loss_of_others(pieces, worths, dealing, person):
    others = without(worths, person)
    greatest = first_best(pieces, others)[0]
    return greatest - dealing_worth(others, without(dealing, person))
