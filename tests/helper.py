"""Searches of all dealings, ways and trees, made without the program, and worths, webs and costs to try."""

from itertools import combinations, product
from random import Random


def comes_first(one, other):
    """Point 2, word by word."""
    for left, right in zip(one, other):
        if left != right:
            return left < right
    return len(one) < len(other)


def first_of(lists):
    """The first one in the order of point 2."""
    first = None
    for one in lists:
        if first is None or comes_first(one, first):
            first = one
    return first


def told_by(told, teller, other):
    """What all tell, with something else of this one's; all others tell the same."""
    return told[:teller] + [other] + told[teller + 1:]


# The shelf


def searched_dealings(people, goods):
    found = []
    for dealing in product(range(-1, goods), repeat=people):
        given = [good for good in dealing if good != -1]
        if len(given) == len(set(given)):
            found.append(list(dealing))
    return found


def searched_worth(worths, dealing):
    total = 0
    for person, good in enumerate(dealing):
        if good != -1:
            total += worths[person][good]
    return total


def searched_best(worths, goods):
    dealings = searched_dealings(len(worths), goods)
    greatest = max(searched_worth(worths, dealing) for dealing in dealings)
    return greatest, first_of(dealing for dealing in dealings if searched_worth(worths, dealing) == greatest)


def searched_pays(worths):
    goods = len(worths[0])
    greatest, best = searched_best(worths, goods)
    pays = []
    for person in range(len(worths)):
        others = [row for other, row in enumerate(worths) if other != person]
        own = 0 if best[person] == -1 else worths[person][best[person]]
        pays.append(searched_best(others, goods)[0] - (greatest - own))
    return pays


def all_worths(people, goods, told):
    """Every worths of that size whose numbers are among `told`."""
    rows = [list(row) for row in product(told, repeat=goods)]
    return [[list(row) for row in worths] for worths in product(rows, repeat=people)]


def many_worths(seed, times):
    """Worths of each size, `times` for each, with few or many ties; the same ones for the same seed."""
    source = Random(seed)
    found = []
    for people in range(1, 5):
        for goods in range(1, 5):
            for time in range(times):
                bound = (1, 3, 10, 1000)[time % 4]
                found.append([[source.randint(0, bound) for _ in range(goods)] for _ in range(people)])
    return found


# The pile


def searched_counts_worth(worths, dealing):
    total = 0
    for row, count in zip(worths, dealing):
        for piece in range(count):
            total += row[piece]
    return total


def searched_pile_best(pieces, worths):
    dealings = [list(dealing) for dealing in product(*[range(len(row) + 1) for row in worths])
                if sum(dealing) <= pieces]
    values = [searched_counts_worth(worths, dealing) for dealing in dealings]
    greatest = max(values)
    return greatest, first_of(dealing for dealing, value in zip(dealings, values) if value == greatest)


def searched_pile_pays(pieces, worths):
    best = searched_pile_best(pieces, worths)[1]
    pays = []
    for person in range(len(worths)):
        others = [row for other, row in enumerate(worths) if other != person]
        kept = [count for other, count in enumerate(best) if other != person]
        pays.append(searched_pile_best(pieces, others)[0] - searched_counts_worth(others, kept))
    return pays


def falling_rows(longest, told):
    """Every row of 0 to `longest` numbers among `told`, none greater than the one ahead."""
    return [list(row) for length in range(longest + 1) for row in product(told, repeat=length)
            if list(row) == sorted(row, reverse=True)]


def falling_row(source, bound, longest=5):
    return sorted([source.randint(0, bound) for _ in range(source.randint(0, longest))], reverse=True)


def many_piles(seed, times):
    """Pieces and worths, `times` for each number of people, with few or many ties."""
    source = Random(seed)
    found = []
    for people in range(1, 6):
        for time in range(times):
            bound = (1, 3, 10, 1000)[time % 4]
            found.append((source.randint(0, 12), [falling_row(source, bound) for _ in range(people)]))
    return found


# The roads


def is_way(places, roads, chosen):
    """Whether one can go by all the chosen roads, each once, from place 0 to the last, no place twice."""
    here = 0
    been = [0]
    left = list(chosen)
    while left:
        onward = [road for road in left if here in roads[road]]
        # Were there two, one of them could be gone only by coming back here.
        if len(onward) != 1:
            return False
        left.remove(onward[0])
        one, other = roads[onward[0]]
        here = other if here == one else one
        if here in been:
            return False
        been.append(here)
    return here == places - 1


def all_joined(places, roads, chosen):
    reached = {0}
    for _ in range(places):
        for road in chosen:
            if reached & set(roads[road]):
                reached |= set(roads[road])
    return len(reached) == places


def is_tree(places, roads, chosen):
    """Point 8, word by word."""
    if not all_joined(places, roads, chosen):
        return False
    return not any(all_joined(places, roads, [road for road in chosen if road != left]) for left in chosen)


def searched_choices(places, roads, kind):
    """All ways or all trees, out of all sets of roads, each rising."""
    fits = {"way": is_way, "tree": is_tree}[kind]
    return [list(chosen) for length in range(len(roads) + 1) for chosen in combinations(range(len(roads)), length)
            if fits(places, roads, chosen)]


def searched_road_best(choices, costs):
    """None where there is nothing to choose."""
    if not choices:
        return None
    prices = [sum(costs[road] for road in choice) for choice in choices]
    least = min(prices)
    return least, first_of(choice for choice, price in zip(choices, prices) if price == least)


def searched_road_gets(choices, costs):
    """What each owner gets, and the first road of the best one without which there is none, or None."""
    least, best = searched_road_best(choices, costs)
    gets = [0] * len(costs)
    for road in best:
        instead = searched_road_best([choice for choice in choices if road not in choice], costs)
        if instead is None:
            return None, road
        gets[road] = instead[0] - (least - costs[road])
    return gets, None


def all_roads(places):
    """Every road that a web of that many places can have, each both ways round."""
    return [(one, other) for one in range(places) for other in range(places) if one != other]


def random_roads(source, places, count):
    return [source.choice(all_roads(places)) for _ in range(count)]


def many_webs(seed, times):
    """Places and roads of each size, `times` for each; some have no way or no tree, some have roads all alone."""
    source = Random(seed)
    return [(places, random_roads(source, places, count))
            for places in range(2, 7) for count in range(1, 11) for _ in range(times)]


def ring_webs(seed, times):
    """Places and roads like those of `many_webs`, but every road can be done without."""
    source = Random(seed)
    found = []
    for places in range(2, 7):
        for time in range(times):
            ring = [(place, (place + 1) % places) for place in range(places)]
            roads = ring + random_roads(source, places, source.randint(0, 10 - places))
            source.shuffle(roads)
            found.append((places, roads))
    return found


def many_costs(source, count, times):
    """Costs for that many roads, with few or many ties."""
    return [[source.randint(0, (0, 1, 3, 10, 1000)[time % 5]) for _ in range(count)] for time in range(times)]


# The refusals


def refusal(ask, *handed):
    """The error by which this is refused; None if it is answered."""
    try:
        ask(*handed)
    except ValueError as error:
        return error
    return None
