"""Looks at what is told of menus, with its paper; it knows nothing of how a choice is found.

A case is a tuple (costs, options, apart, best): for each flight the costs of its options, and itself by each
of them (None where it can't be shaped so), the distance, and the pair (total, choice) that is told, or None.
"""

from skylanes.apart import is_list_of, shows_apart
from skylanes.fractions import is_part, is_whole
from skylanes.meets import is_meet
from skylanes.shapes import flight_by


def costs_of(menus):
    """For each flight the costs of its options."""
    return [[option[0] for option in menu] for menu in menus]


def options_of(flights, menus, now):
    """For each flight itself by each of its options, None where it can't be shaped so."""
    told = []
    for flight, menu in zip(flights, menus):
        told.append([flight_by(flight, option[1], now) for option in menu])
    return told


def is_choice(thing, costs):
    """Whether any thing is made like a choice."""
    if not is_list_of(thing, len(costs)):
        return False
    return all([is_whole(option) and 0 <= option < len(menu) for option, menu in zip(thing, costs)])


def least_cost(costs, chosen):
    """What those chosen and the cheapest options of all further flights cost."""
    spent = sum([menu[option] for menu, option in zip(costs, chosen)])
    return spent + sum([min(menu, default=0) for menu in costs[len(chosen):]])


def is_dear(costs, chosen, best):
    """Whether all choices that begin so cost more than the best one, or as much and come behind it."""
    if best is None:
        return False
    total, choice = best
    least = least_cost(costs, chosen)
    return least > total or (least == total and chosen > choice[:len(chosen)])


def pairs_of(many):
    """Each two of so many flights, by the former, then the latter."""
    return [(k, last) for k in range(many) for last in range(k + 1, many)]


def shows_gone(case, chosen, node):
    """Whether the last one chosen can't be shaped so."""
    options = case[1]
    last = len(chosen) - 1
    return is_list_of(node, 1) and last >= 0 and options[last][chosen[last]] is None


def shows_meet(case, chosen, node):
    """Whether the node has a meet of the last one chosen and one ahead of it."""
    if not is_list_of(node, 4):
        return False
    word, k, s, t = node
    last = len(chosen) - 1
    if not is_whole(k) or not 0 <= k < last or not is_part(s) or not is_part(t):
        return False
    costs, options, apart, best = case
    one = options[k][chosen[k]]
    other = options[last][chosen[last]]
    if one is None or other is None:
        return False
    return is_meet(one, other, apart, tuple(s), tuple(t))


def shows_here(case, chosen, node):
    """Whether they are the told choice, and papers show that no two of its flights can meet."""
    costs, options, apart, best = case
    if not is_list_of(node, 2) or best is None or chosen != best[1]:
        return False
    flights = [menu[option] for menu, option in zip(options, chosen)]
    if any([flight is None for flight in flights]):
        return False
    pairs = pairs_of(len(flights))
    if not is_list_of(node[1], len(pairs)):
        return False
    for (k, last), paper in zip(pairs, node[1]):
        if not shows_apart(flights[k], flights[last], apart, paper):
            return False
    return True


def shows_all(case, chosen, node):
    """Whether there is a node for each option of the next flight, each of which is so."""
    costs = case[0]
    if not is_list_of(node, 2) or len(chosen) == len(costs):
        return False
    children = node[1]
    if not is_list_of(children, len(costs[len(chosen)])):
        return False
    return all([shows_node(case, chosen + (option,), child) for option, child in enumerate(children)])


def shows_node(case, chosen, node):
    """Whether any thing is a node that says what is so where these are chosen."""
    if not isinstance(node, (tuple, list)) or len(node) == 0:
        return False
    word = node[0]
    if word == "gone":
        return shows_gone(case, chosen, node)
    if word == "meet":
        return shows_meet(case, chosen, node)
    if word == "dear":
        return is_list_of(node, 1) and is_dear(case[0], chosen, case[3])
    if word == "here":
        return shows_here(case, chosen, node)
    return word == "all" and shows_all(case, chosen, node)


def comes_to_here(paper, choice):
    """Whether a tree, all of whose nodes are made so, has a "here" at a choice."""
    node = paper
    for option in choice:
        if node[0] != "all":
            return False
        node = node[1][option]
    return node[0] == "here"


def shows_parted(flights, menus, now, apart, told):
    """Whether any thing tells the first cheapest choice, or that there is none, with a paper that shows it."""
    costs = costs_of(menus)
    options = options_of(flights, menus, now)
    if is_list_of(told, 2) and told[0] == "none":
        return shows_node((costs, options, tuple(apart), None), (), told[1])
    if not is_list_of(told, 4) or told[0] != "told":
        return False
    word, total, choice, paper = told
    if not is_whole(total) or not is_choice(choice, costs):
        return False
    choice = tuple(choice)
    if least_cost(costs, choice) != total:
        return False
    case = (costs, options, tuple(apart), (total, choice))
    return shows_node(case, (), paper) and comes_to_here(paper, choice)
