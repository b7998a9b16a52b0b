import copy
import itertools
import random
import unittest
from fractions import Fraction

from helper import Base, all_listed, f, flight, listed, may_meet, number, some_bounds, some_plan
from skylanes.apart import shows_apart
from skylanes.meets import meet_of
from skylanes.menucheck import shows_parted
from skylanes.menus import parted
from skylanes.shapes import by_shapes

APART = (f(2), f(1))
WORDS = ("wait", "slow", "east", "west", "north", "south", "up", "down")

# The first two fly towards one another, the third one by itself, through where both come by.
EAST = flight((0, 0, 0, 0), (5, 5, 0, 0), (10, 10, 0, 0))
WEST = flight((0, 10, 0, 0), (10, 0, 0, 0))
NORTH = flight((0, 5, -5, 0), (10, 5, 5, 0))


def option(cost, *shapes):
    return (cost, tuple((word, f(amount)) for word, amount in shapes))


AS_IT_IS = option(0)
LATER = option(3, ("wait", 20))
HIGHER = option(2, ("up", 1))


def flights_by(flights, menus, now, choice):
    """The flights by a choice, None where one tells None."""
    told = []
    for (plan, bounds), menu, at in zip(flights, menus, choice):
        plan = by_shapes(plan, menu[at][1], now)
        if plan is None:
            return None
        told.append((plan, tuple(bounds)))
    return told


def is_choice(flights, menus, now, apart, choice):
    by = flights_by(flights, menus, now, choice)
    return by is not None and all(meet_of(one, other, apart)[0] == "apart"
                                  for one, other in itertools.combinations(by, 2))


def best_of(flights, menus, now, apart):
    """The pair (total, choice) of the first cheapest choice, by a look at all; None where there is none."""
    rows = []
    for choice in itertools.product(*[range(len(menu)) for menu in menus]):
        if is_choice(flights, menus, now, apart, choice):
            rows.append((sum(menu[at][0] for menu, at in zip(menus, choice)), choice))
    return min(rows) if rows else None


def is_node(case, best, chosen, node):
    """Whether a node of the right kinds is so, by the document's words."""
    flights, menus, now, apart = case
    word = node[0]
    last = len(chosen) - 1

    def by(at):
        plan = by_shapes(flights[at][0], menus[at][chosen[at]][1], now)
        return None if plan is None else (plan, tuple(flights[at][1]))

    if word == "gone":
        return last >= 0 and by(last) is None
    if word == "meet":
        k, s, t = node[1:]
        if not 0 <= k < last or by(k) is None or by(last) is None:
            return False
        return may_meet(by(k), by(last), apart, number(s), number(t))
    if word == "dear":
        if best is None:
            return False
        least = sum(menu[at][0] for menu, at in zip(menus, chosen))
        least += sum(min(row[0] for row in menu) for menu in menus[len(chosen):])
        return least > best[0] or (least == best[0] and tuple(chosen) > tuple(best[1][:len(chosen)]))
    if word == "here":
        if best is None or tuple(chosen) != tuple(best[1]):
            return False
        pairs = list(itertools.combinations(range(len(flights)), 2))
        if len(node[1]) != len(pairs) or any(by(at) is None for at in range(len(flights))):
            return False
        return all(shows_apart(by(k), by(j), apart, paper) for (k, j), paper in zip(pairs, node[1]))
    if len(chosen) == len(flights) or len(node[1]) != len(menus[len(chosen)]):
        return False
    return all(is_node(case, best, chosen + (at,), child) for at, child in enumerate(node[1]))


def is_told(case, told):
    """Whether what is of the right kinds is told rightly, by the document's words."""
    flights, menus, now, apart = case
    if told[0] == "none":
        return is_node(case, None, (), told[1])
    total, choice, paper = told[1:]
    if len(choice) != len(menus) or not all(0 <= at < len(menu) for at, menu in zip(choice, menus)):
        return False
    if total != sum(menu[at][0] for menu, at in zip(menus, choice)) or not is_choice(*case, choice):
        return False
    node = paper
    for at in choice:
        node = node[1][at] if node[0] == "all" and at < len(node[1]) else ("gone",)
    return node[0] == "here" and is_node(case, (total, tuple(choice)), (), paper)


def some_case(seed, most=3):
    rnd = random.Random(seed)
    many = rnd.randint(1, most)
    far = rnd.choice((2, 4, 8))
    flights = [(some_plan(rnd, most=4, far=far), some_bounds(rnd)) for _ in range(many)]
    menus = []
    for _ in range(many):
        menu = []
        for _ in range(rnd.randint(1, 4)):
            shapes = [(rnd.choice(WORDS), f(rnd.randint(0, 9), rnd.choice((1, 2)))) for _ in range(rnd.randint(0, 3))]
            menu.append((rnd.randint(0, 3), tuple(shapes)))
        menus.append(menu)
    return flights, menus, f(rnd.randint(-8, 8)), (f(rnd.randint(1, 4), 2), f(rnd.randint(1, 4), 2))


class Menus(Base):
    def told(self, flights, menus, now=0, apart=APART):
        """What parted tells, looked at by the checker and by the document's words."""
        case = (flights, menus, f(now), apart)
        answer = parted(*case)
        best = best_of(*case)
        self.assertIs(type(answer), tuple)
        self.same(answer[:-1], ("none",) if best is None else ("told",) + best)
        self.assertTrue(is_told(case, answer))
        self.same(shows_parted(*case, answer), True)
        self.same(shows_parted(*case, all_listed(answer)), True)
        lists = [[listed(one) for one in flights], [[[cost, [list(shape) for shape in shapes]]
                 for cost, shapes in menu] for menu in menus], f(now), list(apart)]
        self.same(parted(*lists), answer)
        self.same(shows_parted(*lists, answer), True)
        return answer

    def test_none_needs_a_shape(self):
        far = flight((0, 50, 0, 0), (9, 50, 0, 0))
        self.same(self.told([EAST, far], [[AS_IT_IS, LATER], [LATER, AS_IT_IS]])[1:3], (0, (0, 1)))

    def test_the_least_sum(self):
        self.same(self.told([EAST, WEST], [[AS_IT_IS, LATER, HIGHER], [AS_IT_IS, LATER]])[1:3], (3, (0, 1)))
        menus = [[AS_IT_IS, option(2, ("up", 2))], [AS_IT_IS, LATER]]
        self.same(self.told([EAST, WEST], menus)[1:3], (2, (1, 0)))
        # Two cheap ones may be dearer than a dear one.
        menus = [[AS_IT_IS, option(2, ("wait", 30))], [AS_IT_IS, option(2, ("wait", 60))],
                 [AS_IT_IS, option(5, ("wait", 11))]]
        self.same(self.told([EAST, WEST, NORTH], menus)[1:3], (4, (1, 1, 0)))

    def test_of_one_sum_the_first(self):
        menus = [[AS_IT_IS, option(3, ("wait", 20)), option(3, ("wait", 30))], [AS_IT_IS, option(3, ("wait", 20))]]
        self.same(self.told([EAST, WEST], menus)[1:3], (3, (0, 1)))
        menus = [[option(3, ("wait", 20)), AS_IT_IS, option(3, ("wait", 30))], [AS_IT_IS, option(3, ("wait", 20))]]
        self.same(self.told([EAST, WEST], menus)[1:3], (3, (0, 0)))
        menus = [[AS_IT_IS] * 3, [option(4, ("wait", 1)), option(1, ("wait", 20)), option(1, ("wait", 30))]]
        self.same(self.told([EAST, WEST], menus)[1:3], (1, (0, 1)))

    def test_costs_of_nought(self):
        menus = [[AS_IT_IS, option(0, ("wait", 20))], [AS_IT_IS, option(0, ("wait", 20))]]
        self.same(self.told([EAST, WEST], menus)[1:3], (0, (0, 1)))
        self.same(self.told([EAST, WEST, NORTH], menus + [[AS_IT_IS, option(0, ("wait", 40))]])[1:3], (0, (0, 1, 1)))

    def test_large_costs(self):
        menus = [[AS_IT_IS, option(10 ** 6, ("wait", 20))], [AS_IT_IS, option(10 ** 6 - 1, ("wait", 20))]]
        self.same(self.told([EAST, WEST], menus)[1:3], (10 ** 6 - 1, (0, 1)))

    def test_options_that_tell_none(self):
        # By "up" the second one has no corner to put off; behind a wait on the way it has one.
        menus = [[AS_IT_IS], [option(1, ("up", 1)), option(2, ("up", 0)), option(9, ("wait", 20))]]
        self.same(self.told([EAST, WEST], menus)[1:3], (9, (0, 2)))
        menus = [[AS_IT_IS], [option(1, ("up", 1)), option(5, ("wait", 1), ("up", 9)), option(9, ("wait", 20))]]
        self.same(self.told([EAST, WEST], menus, now=1)[1:3], (5, (0, 1)))
        self.same(self.told([EAST, WEST], menus, now=0)[1:3], (9, (0, 2)))
        self.same(self.told([WEST], [[option(0, ("up", 1)), option(4)]])[1:3], (4, (1,)))

    def test_no_choice(self):
        self.same(self.told([EAST, WEST], [[AS_IT_IS], [AS_IT_IS]])[0], "none")
        self.same(self.told([EAST, WEST], [[AS_IT_IS, HIGHER], [AS_IT_IS, option(1, ("down", 1))]])[0], "none")
        self.same(self.told([WEST], [[HIGHER]]), ("none", ("all", (("gone",),))))
        self.same(self.told([EAST, WEST, NORTH], [[AS_IT_IS], [LATER], [option(1, ("wait", 20))]])[0], "none")

    def test_one_flight_alone(self):
        answer = self.told([EAST], [[LATER, HIGHER, option(2)]])
        self.same(answer, ("told", 2, (1,), ("all", (("dear",), ("here", ()), ("dear",)))))

    def test_bounds_stay(self):
        # Late by 20 at most: what is shaped to be 15 later may meet it all the same.
        late = (EAST[0], (f(0), f(0), f(20)))
        menus = [[AS_IT_IS], [option(1, ("wait", 15)), option(2, ("wait", 40))]]
        self.same(self.told([EAST, WEST], menus)[1:3], (1, (0, 0)))
        self.same(self.told([late, WEST], menus)[1:3], (2, (0, 1)))

    def test_now_counts(self):
        menus = [[AS_IT_IS], [AS_IT_IS, option(1, ("wait", 20))]]
        self.same(self.told([EAST, NORTH], menus, now=1)[1:3], (1, (0, 1)))
        # It would wait where the other one comes by; or it is over.
        self.same(self.told([EAST, NORTH], menus, now=4)[0], "none")
        self.same(self.told([EAST, NORTH], menus, now=10)[0], "none")

    def test_five_flights(self):
        flights = [EAST, WEST, NORTH, flight((0, 5, 5, 0), (10, 5, -5, 0)), flight((0, 0, 0, "1/2"), (10, 10, 0, 0))]
        menus = [[option(cost, ("wait", 12 * cost)) for cost in range(6)] for _ in flights]
        answer = self.told(flights, menus)
        self.same(answer[1], 10)
        self.same(self.told(flights, [menu[:2] for menu in menus])[0], "none")

    def test_many(self):
        words = {"told": 0, "none": 0}
        shaped = 0
        for seed in range(260):
            answer = self.told(*some_case(seed)[:2], now=number(some_case(seed)[2]), apart=some_case(seed)[3])
            words[answer[0]] += 1
            shaped += answer[0] == "told" and any(answer[2])
        self.assertGreater(min(words.values()), 30)
        self.assertGreater(shaped, 30)

    def test_is_as_it_was_and_told_again(self):
        for seed in range(20):
            case = [all_listed(thing) if at == 1 else copy.deepcopy(thing) for at, thing in enumerate(some_case(seed))]
            case[1] = [[[cost, [(word, tuple(amount)) for word, amount in shapes]] for cost, shapes in menu]
                       for menu in case[1]]
            were = copy.deepcopy(case)
            answer = parted(*case)
            self.same(case, were)
            self.same(parted(*case), answer)
            paper = all_listed(answer)
            self.same(shows_parted(*case, paper), True)
            self.same(case, were)
            self.same(paper, all_listed(answer))


class Checker(Base):
    """What shows_parted tells of things that aren't so."""

    flights = [EAST, WEST]
    menus = [[AS_IT_IS, LATER], [option(1), option(5, ("up", 1)), option(3, ("wait", 20))]]
    # The first two meet at 5, the second one can't be shaped by the middle option.
    total, choice = 3, (0, 2)

    def right(self):
        """A right answer, of lists, to be spoilt."""
        return all_listed(parted(self.flights, self.menus, f(0), APART))

    def refused(self, told, flights=None, menus=None):
        self.same(shows_parted(flights or self.flights, menus or self.menus, f(0), APART, told), False)

    def taken(self, told, flights=None, menus=None):
        self.same(shows_parted(flights or self.flights, menus or self.menus, f(0), APART, told), True)

    def test_a_right_one(self):
        right = self.right()
        self.same(right[:3], ["told", self.total, list(self.choice)])
        self.taken(right)
        papers = right[3][1][0][1][2][1]
        meet = ["meet", 0, [5, 1], [5, 1]]
        children = [["all", [meet, ["gone"], ["here", papers]]], ["dear"]]
        self.taken(["told", 3, [0, 2], ["all", children]])
        # Another tree is as right.
        children[0][1][1] = ["dear"]
        children[1] = ["all", [["dear"], ["gone"], ["dear"]]]
        self.taken(["told", 3, [0, 2], ["all", children]])

    def test_another_total(self):
        for total in (2, 4, 0, -3, True, None, "3", [3, 1], (3, 1)):
            told = self.right()
            told[1] = total
            self.refused(told)

    def test_true_and_false_are_no_totals(self):
        for cost, thing in ((1, True), (0, False)):
            tree = ["all", [["here", []]]]
            self.taken(["told", cost, [0], tree], [EAST], [[option(cost)]])
            self.refused(["told", thing, [0], tree], [EAST], [[option(cost)]])

    def test_a_choice_that_comes_at_no_here(self):
        # All of the tree is so, but the told one is none.
        menus = [[option(0, ("up", 1)), option(2)], [AS_IT_IS]]
        for tree in (["all", [["gone"], ["dear"]]], ["all", [["gone"], ["all", [["dear"]]]]]):
            self.refused(["told", 0, [0, 0], tree], [WEST, EAST], menus)
        tree = ["all", [["all", [["meet", 0, [5, 1], [5, 1]]]]]]
        self.refused(["told", 0, [0, 0], tree], [WEST, EAST], [[AS_IT_IS], [AS_IT_IS]])

    def test_another_choice(self):
        for choice in ([0, 0], [0, 1], [1, 0], [1, 2], [0, 3], [0, -1], [0], [0, 2, 0], [], [False, 2], [0, "2"],
                       [0, None], "02", None, 2, [[0, 2]]):
            told = self.right()
            told[2] = choice
            self.refused(told)

    def test_not_the_first_cheapest(self):
        flights = [EAST, WEST]
        menus = [[AS_IT_IS, option(1, ("wait", 20)), option(1, ("wait", 30))], [AS_IT_IS, option(1, ("wait", 20))]]
        papers = {}
        for choice in ((0, 1), (1, 0), (2, 0)):
            one, other = flights_by(flights, menus, f(0), choice)
            papers[choice] = (meet_of(one, other, APART)[1],)
        meet = ("meet", 0, f(5), f(5))
        first = ("all", (("all", (meet, ("here", papers[(0, 1)]))), ("dear",), ("dear",)))
        self.taken(("told", 1, (0, 1), first), flights, menus)
        # (0, 1) costs as much, and comes ahead.
        for ahead in (("all", (meet, ("dear",))), ("all", (meet, ("here", papers[(0, 1)]))), ("dear",),
                      ("all", (meet, ("here", papers[(1, 0)])))):
            self.refused(("told", 1, (1, 0), ("all", (ahead, ("all", (("here", papers[(1, 0)]), ("dear",))),
                                                      ("dear",)))), flights, menus)
        # One that costs more is told.
        menus = [[AS_IT_IS, option(2, ("wait", 20))], [AS_IT_IS, option(1, ("wait", 20))]]
        tree = ("all", (("all", (meet, ("dear",))), ("all", (("here", papers[(1, 0)]), ("dear",)))))
        self.refused(("told", 2, (1, 0), tree), flights, menus)
        tree = ("all", (("all", (meet, ("here", papers[(0, 1)]))), ("dear",)))
        self.taken(("told", 1, (0, 1), tree), flights, menus)

    def test_none_where_there_is_a_choice(self):
        paper = self.right()[3]
        self.refused(["none", paper])
        for last in (["gone"], ["dear"], ["meet", 0, [5, 1], [5, 1]], ["all", []], ["here", []]):
            meet = ["meet", 0, [5, 1], [5, 1]]
            self.refused(["none", ["all", [["all", [meet, ["gone"], last]], ["all", [last, ["gone"], last]]]]])

    def test_none(self):
        menus = [[AS_IT_IS], [AS_IT_IS, option(0, ("up", 1))]]
        meet = ["meet", 0, [5, 1], [5, 1]]
        self.taken(["none", ["all", [["all", [meet, ["gone"]]]]]], menus=menus)
        for tree in (["dear"], ["here", []], ["gone"], meet, ["all", []], ["all", [["dear"]]],
                     ["all", [["all", [meet, ["dear"]]]]], ["all", [["all", [["dear"], ["gone"]]]]],
                     ["all", [["all", [["here", []], ["gone"]]]]], ["all", [["all", [meet]]]],
                     ["all", [["all", [meet, ["gone"], ["gone"]]]]], ["all", [["all", [["gone"], meet]]]],
                     ["all", [["gone"]]], ["all", [meet]], ["all", [["all", [meet, meet]]]],
                     ["all", [["all", [["gone"], ["gone"]]]]]):
            self.refused(["none", tree], menus=menus)
        self.refused(["none"], menus=menus)
        self.refused(["none", ["all", [["all", [meet, ["gone"]]]]], 0], menus=menus)
        self.refused(["told", ["all", [["all", [meet, ["gone"]]]]]], menus=menus)
        self.refused(["told", 0, [0, 0], ["all", [["all", [meet, ["gone"]]]]]], menus=menus)
        self.refused(["told", 0, [0, 1], ["all", [["all", [meet, ["gone"]]]]]], menus=menus)

    def spoilt(self, path, node):
        """The right one with another node at a path through children."""
        told = self.right()
        if not path:
            told[3] = node
            return told
        place = told[3]
        for at in path[:-1]:
            place = place[1][at]
        place[1][path[-1]] = node
        return told

    def test_gone(self):
        self.taken(self.spoilt((0, 1), ["gone"]))
        for path in ((0,), (1,), (0, 0), (0, 2), ()):
            self.refused(self.spoilt(path, ["gone"]))
        for node in (["gone", 0], ["gone", []], "gone", [["gone"]], ["Gone"], ["gone", None]):
            self.refused(self.spoilt((0, 1), node))

    def test_meet(self):
        for s, t, wanted in (([5, 1], [5, 1], True), ((5, 1), (5, 1), True), ([9, 2], [9, 2], True),
                             ([5, 1], [9, 2], False), ([4, 1], [4, 1], False), ([50, 1], [50, 1], False),
                             ([10, 2], [5, 1], False), ([5, 1], [10, 2], False), ([5, 1], 5, False),
                             (5, 5, False), ([5, True], [5, True], False), ("5", "5", False), (None, None, False),
                             ([5, 1, 1], [5, 1], False), ([-5, -1], [-5, -1], False), ([5, 0], [5, 0], False)):
            told = self.spoilt((0, 0), ["meet", 0, s, t])
            self.same(shows_parted(self.flights, self.menus, f(0), APART, told), wanted)
        for k in (1, 2, -1, -2, True, False, None, "0", [0], [0, 1]):
            self.refused(self.spoilt((0, 0), ["meet", k, [5, 1], [5, 1]]))
        for path in ((), (0,), (1,), (0, 1), (0, 2)):
            self.refused(self.spoilt(path, ["meet", 0, [5, 1], [5, 1]]))
        for node in (["meet"], ["meet", 0, [5, 1]], ["meet", 0, [5, 1], [5, 1], 0], ["meet", [0, [5, 1], [5, 1]]]):
            self.refused(self.spoilt((0, 0), node))

    def test_meet_by_the_flights_as_they_are_shaped(self):
        # k is the one of the meet, the last one chosen the other; both by their own moments.
        flights = [EAST, (WEST[0], (f(0), f(0), f(3)))]
        menus = [[option(0, ("wait", 2))], [AS_IT_IS]]
        for s, t, wanted in ((7, 5, True), (5, 7, False), (7, "9/2", True), (7, 4, True), ("61/10", "31/10", False)):
            told = ["none", ["all", [["all", [["meet", 0, f(s), f(t)]]]]]]
            self.same(shows_parted(flights, menus, f(0), APART, told), wanted)

    def test_meet_where_one_is_gone(self):
        flights = [WEST, EAST]
        menus = [[option(0, ("up", 1))], [AS_IT_IS]]
        self.taken(["none", ["all", [["gone"]]]], flights, menus)
        self.refused(["none", ["all", [["all", [["meet", 0, [5, 1], [5, 1]]]]]]], flights, menus)
        self.refused(["none", ["all", [["all", [["gone"]]]]]], flights, menus)
        self.refused(["told", 0, [0, 0], ["all", [["all", [["here", [[]]]]]]]], flights, menus)

    def test_the_k_ahead(self):
        flights = [EAST, flight((0, 50, 0, 0), (9, 50, 0, 0)), WEST]
        menus = [[AS_IT_IS], [AS_IT_IS], [AS_IT_IS]]
        for k, wanted in ((0, True), (1, False), (2, False), (3, False), (-1, False), (-3, False)):
            told = ["none", ["all", [["all", [["all", [["meet", k, [5, 1], [5, 1]]]]]]]]]
            self.same(shows_parted(flights, menus, f(0), APART, told), wanted)

    def test_dear(self):
        # The second menu's least cost is 1: by the second option of the first one it would come to 4.
        self.taken(self.spoilt((1,), ["dear"]))
        self.taken(self.spoilt((0, 1), ["dear"]))
        for path in ((), (0,), (0, 0), (0, 2)):
            self.refused(self.spoilt(path, ["dear"]))
        for node in (["dear", 0], ["dear", []], "dear", ["DEAR"], [["dear"]]):
            self.refused(self.spoilt((1,), node))

    def test_here(self):
        papers = self.right()[3][1][0][1][2][1]
        self.taken(self.spoilt((0, 2), ["here", papers]))
        for path in ((), (0,), (1,), (0, 0), (0, 1)):
            self.refused(self.spoilt(path, ["here", papers]))
        for spoilt in ([], papers + papers, papers[0], [[]], None, 0, "", [None], [papers], [papers[0][1:]], [True],
                       [papers[0] + [0]]):
            self.refused(self.spoilt((0, 2), ["here", spoilt]))
        for node in (["here"], ["here", papers, 0], "here", ["here", papers, papers]):
            self.refused(self.spoilt((0, 2), node))

    def test_papers_by_the_former_then_the_latter(self):
        flights = [EAST, flight((0, 0, 0, 8), (9, 10, 0, 8)), flight((0, 0, 9, 0), (2, 0, 9, 0), (9, 10, 9, 0)),
                   flight((20, 0, 0, 0), (30, 0, 0, 0), (31, 9, 0, 0), (32, 0, 0, 0))]
        menus = [[AS_IT_IS]] * 4
        papers = [meet_of(one, other, APART)[1] for one, other in itertools.combinations(flights, 2)]

        def told(rows):
            return ["told", 0, [0] * 4, ["all", [["all", [["all", [["all", [["here", rows]]]]]]]]]]

        self.taken(told(papers), flights, menus)
        for at in range(6):
            self.refused(told(papers[:at] + papers[at + 1:]), flights, menus)
        refused = 0
        for one, other in itertools.combinations(range(6), 2):
            rows = list(papers)
            rows[one], rows[other] = rows[other], rows[one]
            self.same(shows_parted(flights, menus, f(0), APART, told(rows)), is_told((flights, menus, f(0), APART),
                                                                                     told(rows)))
            refused += not shows_parted(flights, menus, f(0), APART, told(rows))
        self.assertGreater(refused, 8)

    def test_children(self):
        right = self.right()[3]
        for path in ((), (0,)):
            node = right
            for at in path:
                node = node[1][at]
            for children in (node[1][:-1], node[1][1:], node[1] + [["gone"]], node[1] + [["dear"]], [], None, 2,
                             "ab", node[1][::-1]):
                self.refused(self.spoilt(path, ["all", children]))
            for other in (["all"], ["all", node[1], 0], ["all"] + node[1], node[1], ["any", node[1]], []):
                self.refused(self.spoilt(path, other))
        # By another word it is none, off the way to the choice, too.
        children = [["dear"], ["gone"], ["dear"]]
        self.taken(self.spoilt((1,), ["all", children]))
        for word in ("any", "", None, ["all"], True):
            self.refused(self.spoilt((1,), [word, children]))
        # Where all are chosen there is no next flight.
        for path in ((0, 0), (0, 1), (0, 2)):
            for children in ([], [["gone"]], [["dear"], ["dear"]]):
                self.refused(self.spoilt(path, ["all", children]))

    def test_things_of_other_kinds(self):
        things = [None, True, False, 0, 1, -3, 10 ** 60, "", "told", "none", "all", [], (), [[]], ((),), ["told"],
                  ["none"], [None], [True, True], ["none", None], ["none", True], ["none", 0], ["none", ""],
                  ["none", []], ["none", [[]]], ["none", ["all"]], ["none", ["all", None]], ["told", 3, [0, 2]],
                  ["told", 3, [0, 2], None], ["told", 3, [0, 2], []], ["told", 3, [0, 2], True],
                  ["told", 3, [0, 2], ["all", [None, None]]], ["told", 3, [0, 2], ["all", [[], []]]],
                  ["told", 3, [0, 2], ["all", [[[]], [[]]]]], [["told"], 3, [0, 2], []], [["none"], []]]
        for thing in things:
            self.refused(thing)
            self.refused([thing])
            self.refused(["none", thing])
            if thing != "told":
                self.refused([thing] + self.right()[1:])
            for path in ((), (0,), (0, 0), (0, 1), (0, 2)):
                self.refused(self.spoilt(path, thing))
        self.refused(self.right() + [0])
        self.refused(self.right()[:3])

    def test_thirty_deep(self):
        for leaf in (None, 0, True, "gone", "all"):
            for wrap in (lambda thing: [thing], lambda thing: (thing,), lambda thing: ["all", [thing]],
                         lambda thing: ["all", thing], lambda thing: [thing, thing[:0] if thing else 0],
                         lambda thing: ["none", thing], lambda thing: ["here", [thing]]):
                thing = leaf
                if leaf is None or isinstance(leaf, (int, bool)):
                    thing = [leaf]
                for _ in range(15):
                    thing = wrap(thing)
                self.refused(thing)
                self.refused(["none", thing])
                self.refused(["told", 3, [0, 2], thing])

    def test_some_things(self):
        rnd = random.Random(5)
        leaves = [None, True, False, 0, 1, 2, 3, -1, "told", "none", "all", "gone", "dear", "meet", "here", "", (5, 1),
                  [5, 1], (1, 2)]

        def some_thing(deep):
            if deep == 0 or rnd.random() < 0.3:
                return rnd.choice(leaves)
            rows = [some_thing(deep - 1) for _ in range(rnd.randint(0, 4))]
            if rows and rnd.random() < 0.6:
                rows[0] = rnd.choice(leaves[8:15])
            return tuple(rows) if rnd.random() < 0.5 else rows

        for _ in range(3000):
            self.refused(some_thing(6))
            self.refused(["told", 3, [0, 2], some_thing(4)])
            self.refused(["none", some_thing(4)])

    def test_spoilt_trees(self):
        counts = {True: 0, False: 0}
        for seed in range(220):
            case = some_case(seed)
            right = parted(*case)
            rnd = random.Random(seed)
            for _ in range(6):
                told = self.spoil(rnd, all_listed(right))
                wanted = is_told(case, told)
                self.same(shows_parted(*case, told), wanted)
                counts[wanted] += 1
        self.assertGreater(min(counts.values()), 60)

    def spoil(self, rnd, told):
        """Something else, of the right kinds all through, than was told."""
        if rnd.random() < 0.15:
            if told[0] == "none":
                return ["told", 0, [0], told[1]]
            at = rnd.randrange(3)
            if at == 0:
                return ["none", told[3]]
            if at == 1:
                told[1] += rnd.choice((-1, 1))
            else:
                told[2][rnd.randrange(len(told[2]))] += rnd.choice((-1, 1))
            return told
        nodes = []

        def walk(holder, at):
            nodes.append((holder, at))
            if holder[at][0] == "all":
                for number_of_child in range(len(holder[at][1])):
                    walk(holder[at][1], number_of_child)

        walk(told, len(told) - 1)
        holder, at = rnd.choice(nodes)
        node = holder[at]
        how = rnd.randrange(5)
        if how == 0:
            holder[at] = copy.deepcopy(rnd.choice([other[place] for other, place in nodes]))
        elif how == 1:
            holder[at] = rnd.choice((["gone"], ["dear"]))
        elif how == 2 and node[0] == "meet":
            node[1] += rnd.choice((-1, 1))
        elif how == 3 and node[0] == "meet":
            place = rnd.choice((2, 3))
            node[place] = list(f(number(node[place]) + Fraction(rnd.randint(-4, 4), 4)))
        elif node[0] == "all":
            node[1].pop(rnd.randrange(len(node[1])))
        elif node[0] == "here" and node[1]:
            node[1].pop()
        return told


if __name__ == "__main__":
    unittest.main()
