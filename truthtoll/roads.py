"""The roads: a way or a tree is chosen by the told costs, and the owners of its roads get their due."""

from truthtoll.common import MOST_TOLD, within_bounds
from truthtoll.errors import Alone, BadCosts, BadWeb, NoWay

LEAST_PLACES = 2
MOST_PLACES = 6
MOST_ROADS = 10


class Web:
    def __init__(self, places, roads):
        check_web(places, roads)
        self.places = places
        # A list of its own: the one handed in may be changed later.
        self.roads = list(roads)


def road_best(web, kind, costs):
    return cheapest(choices_to_make(web, kind, costs), costs)


def road_gets(web, kind, costs):
    choices = choices_to_make(web, kind, costs)
    best = cheapest(choices, costs)
    # Owner by owner, rising, so that the first road that nothing can stand in for is the one refused.
    return [owner_gets(choices, costs, best, road) for road in range(len(costs))]


def road_gain(web, kind, costs, road, truth):
    gets = road_gets(web, kind, costs)
    if road in road_best(web, kind, costs)[1]:
        return gets[road] - truth
    return gets[road]


def check_web(places, roads):
    if not LEAST_PLACES <= places <= MOST_PLACES:
        raise BadWeb(f"a web has {LEAST_PLACES} to {MOST_PLACES} places")
    if not 1 <= len(roads) <= MOST_ROADS:
        raise BadWeb(f"a web has 1 to {MOST_ROADS} roads")
    for road in roads:
        check_road(places, road)


def check_road(places, road):
    if len(road) != 2 or road[0] == road[1]:
        raise BadWeb("a road joins two unlike places")
    for place in road:
        if not 0 <= place < places:
            raise BadWeb("a road joins places that there are")


def check_costs(web, costs):
    if len(costs) != len(web.roads):
        raise BadCosts("each road has one cost")
    for cost in costs:
        if not within_bounds(cost):
            raise BadCosts(f"a cost is a number from 0 to {MOST_TOLD}")


def choices_to_make(web, kind, costs):
    check_costs(web, costs)
    choices = all_ways(web) if kind == "way" else all_trees(web)
    if len(choices) == 0:
        raise NoWay(f"there is no {kind}")
    return choices


def all_ways(web):
    return [sorted(way) for way in ways_onward(web, 0, [0])]


# The roads of each way from this place to the last one, in the order in which they are gone.
def ways_onward(web, place, seen):
    if place == web.places - 1:
        return [[]]
    ways = []
    for road, ends in enumerate(web.roads):
        if place in ends:
            there = ends[0] + ends[1] - place
            if there not in seen:
                ways.extend([[road] + rest for rest in ways_onward(web, there, seen + [there])])
    return ways


def all_trees(web):
    # Each forest is its roads and, for each place, the part it lies in; at first each place is a part by itself.
    forests = [([], list(range(web.places)))]
    for road, ends in enumerate(web.roads):
        forests = forests + [with_road(forest, road, ends) for forest in forests if joins_parts(forest, ends)]
    # A forest with fewer roads leaves some places apart; more it can't have without a ring.
    return [roads for roads, parts in forests if len(roads) == web.places - 1]


def joins_parts(forest, ends):
    parts = forest[1]
    return parts[ends[0]] != parts[ends[1]]


def with_road(forest, road, ends):
    parts = forest[1]
    kept = parts[ends[0]]
    joined = parts[ends[1]]
    return (forest[0] + [road], [kept if part == joined else part for part in parts])


# The least one of these pairs is the best: lists stand to one another in Python as the document orders them.
def cheapest(choices, costs):
    return min([(choice_cost(choice, costs), choice) for choice in choices])


def choice_cost(choice, costs):
    return sum([costs[road] for road in choice])


def owner_gets(choices, costs, best, road):
    if road not in best[1]:
        return 0
    others = [choice for choice in choices if road not in choice]
    if len(others) == 0:
        raise Alone(road)
    return cheapest(others, costs)[0] - best[0] + costs[road]
