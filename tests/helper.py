"""A search of all dealings of a shelf, made without the program, and worths to try."""

from itertools import product
from random import Random


def comes_first(one, other):
    """Point 2, word by word."""
    for left, right in zip(one, other):
        if left != right:
            return left < right
    return len(one) < len(other)


def searched_dealings(people, goods):
    found = []
    for dealing in product(range(-1, goods), repeat=people):
        given = [good for good in dealing if good != -1]
        if len(given) == len(set(given)):
            found.append(list(dealing))
    return found


def searched_worth(worths, dealing):
    total = 0
    for person, good in enumerate(dealing):
        if good != -1:
            total += worths[person][good]
    return total


def searched_best(worths, goods):
    dealings = searched_dealings(len(worths), goods)
    greatest = max(searched_worth(worths, dealing) for dealing in dealings)
    best = None
    for dealing in dealings:
        if searched_worth(worths, dealing) == greatest and (best is None or comes_first(dealing, best)):
            best = dealing
    return greatest, best


def searched_pays(worths):
    goods = len(worths[0])
    greatest, best = searched_best(worths, goods)
    pays = []
    for person in range(len(worths)):
        others = [row for other, row in enumerate(worths) if other != person]
        own = 0 if best[person] == -1 else worths[person][best[person]]
        pays.append(searched_best(others, goods)[0] - (greatest - own))
    return pays


def all_worths(people, goods, told):
    """Every worths of that size whose numbers are among `told`."""
    rows = [list(row) for row in product(told, repeat=goods)]
    return [[list(row) for row in worths] for worths in product(rows, repeat=people)]


def many_worths(seed, times):
    """Worths of each size, `times` for each, with few or many ties; the same ones for the same seed."""
    source = Random(seed)
    found = []
    for people in range(1, 5):
        for goods in range(1, 5):
            for time in range(times):
                bound = (1, 3, 10, 1000)[time % 4]
                found.append([[source.randint(0, bound) for _ in range(goods)] for _ in range(people)])
    return found
