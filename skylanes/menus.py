"""The cheapest shapes for several flights at once, by menus, with a paper that shows them to be so.

What is chosen is a tuple of an option's number for each of the first flights.
"""

from skylanes.meets import meet_of
from skylanes.menucheck import costs_of, is_dear, least_cost, options_of, pairs_of


class Table:
    """The flights by each of their options, with what was found of two of them, which is sought but once."""

    def __init__(self, flights, menus, now, apart):
        self.apart = tuple(apart)
        self.costs = costs_of(menus)
        self.options = options_of(flights, menus, now)
        self.found = {}

    def between(self, k, last, chosen):
        """What meet_of tells of the flights k and last, as they are chosen."""
        key = (k, chosen[k], last, chosen[last])
        if key not in self.found:
            one = self.options[k][chosen[k]]
            other = self.options[last][chosen[last]]
            self.found[key] = meet_of(one, other, self.apart)
        return self.found[key]

    def bar_of(self, chosen):
        """The node that says why the last one chosen can't be so, None where it can, or where none is chosen."""
        last = len(chosen) - 1
        if last < 0:
            return None
        if self.options[last][chosen[last]] is None:
            return ("gone",)
        for k in range(last):
            found = self.between(k, last, chosen)
            if found[0] == "meet":
                return ("meet", k, found[1], found[2])
        return None


def first_cheapest(table, chosen, best):
    """The better one of best and the first cheapest choice that begins so, as a pair (total, choice).

    None stands for none. All choices that were looked at before are less than these, as tuples rise.
    """
    total = least_cost(table.costs, chosen)
    if best is not None and total >= best[0]:
        return best
    if table.bar_of(chosen) is not None:
        return best
    if len(chosen) == len(table.costs):
        return (total, chosen)
    for option in range(len(table.costs[len(chosen)])):
        best = first_cheapest(table, chosen + (option,), best)
    return best


def papers_of(table, choice):
    """For each two flights of a choice the paper that shows that they can't meet."""
    return tuple([table.between(k, last, choice)[1] for k, last in pairs_of(len(choice))])


def tree_of(table, chosen, best):
    """The node of the tree where these are chosen."""
    if is_dear(table.costs, chosen, best):
        return ("dear",)
    bar = table.bar_of(chosen)
    if bar is not None:
        return bar
    if len(chosen) == len(table.costs):
        return ("here", papers_of(table, chosen))
    many = len(table.costs[len(chosen)])
    return ("all", tuple([tree_of(table, chosen + (option,), best) for option in range(many)]))


def parted(flights, menus, now, apart):
    """("told", total, choice, paper) of the first cheapest choice, or ("none", paper) where there is none."""
    table = Table(flights, menus, now, apart)
    best = first_cheapest(table, (), None)
    paper = tree_of(table, (), best)
    if best is None:
        return ("none", paper)
    return ("told", best[0], best[1], paper)
