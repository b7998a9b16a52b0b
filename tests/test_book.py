import copy
import random
import unittest
from fractions import Fraction

from helper import Base, f, flight, listed, number, plan_of, some_bounds, st
from skylanes.agree import fault_of
from skylanes.amounts import bad_amounts, bad_at_gate, bad_in_room, least_out
from skylanes.book import Book
from skylanes.errors import BadPlan, LaneError, NoGate, NoName, Past, Taken
from skylanes.gates import busy, use_of
from skylanes.plans import later, part_of, same_flights
from skylanes.rooms import full
from skylanes.shapes import shaped

APART = (f(2), f(1))
EAST = flight((0, 0, 0, 0), (5, 5, 0, 0), (10, 10, 0, 0))
WEST = flight((0, 10, 0, 0), (10, 0, 0, 0))
HIGH = flight((0, 0, 0, 5), (10, 10, 0, 5))
FAR = flight((0, 50, 0, 0), (10, 50, 0, 0))
HALL = ("hall", (f(4), f(-9), f(-9)), (f(6), f(9), f(9)), 1)
GATES = [("west", f(2), 1), ("east", f(3), 2)]
LATER = ("wait", f(30))
HIGHER = ("up", f(4))
WORDS = ("wait", "slow", "east", "west", "north", "south", "up", "down")


def moved(flight_in, by):
    return (later(flight_in[0], f(by)), flight_in[1])


def by(flight_in, word, amount, now=0):
    return (shaped(flight_in[0], (word, f(amount)), f(now)), flight_in[1])


def state(book):
    return (book.now(), book.stand(), book.given_order())


class Books(Base):
    def book(self, rooms=(), gates=GATES, shapes=(LATER, HIGHER), apart=APART):
        return Book(apart, list(rooms), list(gates), list(shapes))

    def refused(self, wanted, book, deed, *things, place=None):
        """A refusal of just this class, by which nothing is changed."""
        was = state(book)
        with self.assertRaises(LaneError) as caught:
            getattr(book, deed)(*things)
        self.assertIs(type(caught.exception), wanted)
        if place is not None:
            self.same(caught.exception.place, place)
        self.same(state(book), was)

    def held(self, book, deed, *things, fault):
        """What is held changes nothing."""
        was = state(book)
        self.same(getattr(book, deed)(*things), ("held", fault))
        self.same(state(book), was)

    def agrees(self, book, rooms=(), gates=GATES):
        self.assertIsNone(fault_of(book.stand(), APART, list(rooms), list(gates)))


class New(Books):
    def test_is_empty(self):
        book = self.book([HALL])
        self.same(state(book), (f(0), (), ()))
        self.same(state(Book(APART, [], [], [])), (f(0), (), ()))

    def test_two_are_apart_from_one_another(self):
        one, other = self.book(), self.book()
        self.same(one.ask("ant", 3, EAST, None, None), ("given",))
        self.same(one.time(f(1)), ())
        self.same(state(other), (f(0), (), ()))
        self.same(other.ask("ant", 3, WEST, None, None), ("given",))
        self.same(one.stand(), (("ant", 3, EAST, None, None),))


class Refusals(Books):
    bad = ([], (f(0), f(0), f(0)))

    def setUp(self):
        self.standing = self.book()
        self.standing.ask("ant", 3, moved(FAR, 20), None, None)
        self.standing.time(f(5))

    def test_bad_plan(self):
        for deed in ("ask", "fit"):
            for plan, place in (([], 0), (EAST[0][:1], 1), ([None], 0), (EAST[0][:2] + (7,), 2),
                                ((EAST[0][1], EAST[0][0]), 1), ([[(0, 1)] * 3], 0)):
                self.refused(BadPlan, self.standing, deed, "bee", 3, (plan, EAST[1]), None, None, place=place)
        self.refused(BadPlan, self.standing, "change", "ant", [], place=0)

    def test_taken(self):
        for deed in ("ask", "fit"):
            self.refused(Taken, self.standing, deed, "ant", 9, moved(FAR, 40), None, None)

    def test_no_gate(self):
        for deed in ("ask", "fit"):
            for begin, end in (("north", None), (None, "north"), ("west", "north"), ("north", "east"),
                               ("west", "west"), ("east", "east"), ("north", "north")):
                self.refused(NoGate, self.standing, deed, "bee", 3, moved(EAST, 20), begin, end)
        self.refused(NoGate, Book(APART, [HALL], [], []), "ask", "bee", 3, EAST, "hall", None)

    def test_past(self):
        for deed in ("ask", "fit"):
            self.refused(Past, self.standing, deed, "bee", 3, moved(EAST, "499/100"), None, None)
            self.refused(Past, self.standing, deed, "bee", 3, EAST, None, None)
        self.same(self.standing.ask("bee", 3, moved(EAST, 5), None, None), ("given",))
        self.refused(Past, self.book(), "ask", "bee", 3, moved(EAST, "-1/100"), None, None)

    def test_of_several_the_one_told_first(self):
        for deed in ("ask", "fit"):
            self.refused(BadPlan, self.standing, deed, "ant", 3, self.bad, "north", "north")
            self.refused(Taken, self.standing, deed, "ant", 3, EAST, "north", "north")
            self.refused(NoGate, self.standing, deed, "bee", 3, EAST, "west", "west")
            self.refused(NoGate, self.standing, deed, "bee", 3, EAST, None, "north")
            self.refused(Past, self.standing, deed, "bee", 3, EAST, "west", "east")
            # All of them are due ahead of a held one.
            self.refused(Taken, self.standing, deed, "ant", 3, moved(FAR, 20), None, None)
        self.refused(NoName, self.standing, "change", "bee", [])
        self.refused(NoName, self.standing, "change", "bee", EAST[0])
        self.refused(BadPlan, self.standing, "change", "ant", EAST[0][:1], place=1)
        self.refused(Past, self.standing, "change", "ant", EAST[0])

    def test_no_name(self):
        self.refused(NoName, self.standing, "give_back", "bee")
        self.refused(NoName, self.standing, "change", "bee", FAR[0])
        self.standing.give_back("ant")
        self.refused(NoName, self.standing, "give_back", "ant")
        self.refused(NoName, self.standing, "change", "ant", moved(FAR, 20)[0])


class Ask(Books):
    def test_given(self):
        book = self.book()
        self.same(book.ask("cat", 3, EAST, "west", "east"), ("given",))
        self.same(book.ask("ant", 5, HIGH, None, "west"), ("given",))
        self.same(book.ask("bee", 0, FAR, None, None), ("given",))
        self.same(book.stand(), (("ant", 5, HIGH, None, "west"), ("bee", 0, FAR, None, None),
                                 ("cat", 3, EAST, "west", "east")))
        self.same(book.given_order(), ("cat", "ant", "bee"))

    def test_held_by_a_meet(self):
        book = self.book()
        book.ask("bee", 3, EAST, None, None)
        self.held(book, "ask", "cat", 9, WEST, None, None, fault=("meet", "bee", "cat"))
        self.held(book, "ask", "ant", 9, WEST, None, None, fault=("meet", "ant", "bee"))
        book.ask("dog", 3, FAR, None, None)
        # By two of them: the first pair as tuples rise.
        both = flight((0, 5, 0, 0), (10, 50, 0, 0), late=9)
        self.held(book, "ask", "cow", 9, both, None, None, fault=("meet", "bee", "cow"))
        self.held(book, "ask", "elk", 9, both, None, None, fault=("meet", "bee", "elk"))

    def test_held_by_a_room(self):
        book = self.book([HALL])
        book.ask("bee", 3, EAST, None, None)
        self.held(book, "ask", "ant", 9, HIGH, None, None, fault=("room", "hall", st(4, 0, 6)))
        self.same(book.ask("ant", 9, moved(HIGH, 2), None, None), ("given",))
        self.agrees(book, [HALL])

    def test_held_by_a_gate(self):
        book = self.book()
        book.ask("bee", 3, EAST, "west", "east")
        self.held(book, "ask", "ant", 9, HIGH, "west", None, fault=("gate", "west", st(0, 1, 2)))
        self.same(book.ask("ant", 9, moved(HIGH, 2), "west", "east"), ("given",))
        # The other gate takes two at once, a use of the end and one of the begin.
        self.held(book, "ask", "cat", 9, moved(FAR, 12), "east", None, fault=("gate", "east", st(12, 1, 13)))
        self.same(book.ask("cat", 9, moved(FAR, 13), "east", None), ("given",))

    def test_what_stands_is_of_tuples(self):
        lists = [[["hall", [f(4), f(-9), f(-9)], [f(6), f(9), f(9)], 1]], [["west", f(2), 1]], [["wait", f(30)]]]
        apart = list(APART)
        book = Book(apart, *lists)
        handed = [[[list(number_in) for number_in in corner] for corner in EAST[0]], list(EAST[1])]
        were = copy.deepcopy([apart, lists, handed])
        self.same(book.ask("ant", 3, handed, "west", None), ("given",))
        self.same([apart, lists, handed], were)
        wanted = (("ant", 3, EAST, "west", None),)
        self.same(book.stand(), wanted)
        # What becomes of what was handed in is nothing to the book.
        handed[0][0][1][0] = 77
        handed[0].pop()
        handed[1][0] = f(99)
        lists[0].clear()
        lists[1][0][2] = 99
        lists[2].clear()
        apart[0] = f(99)
        self.same(book.stand(), wanted)
        self.held(book, "ask", "bee", 3, HIGH, None, None, fault=("room", "hall", st(4, 0, 6)))
        self.held(book, "ask", "bee", 3, moved(HIGH, "3/2"), "west", None,
                  fault=("room", "hall", st("11/2", 0, 6)))
        self.held(book, "ask", "bee", 3, (later(FAR[0], f(1)), FAR[1]), "west", None,
                  fault=("gate", "west", st(1, 1, 2)))
        self.same(book.fit("bee", 3, WEST, None, None), ("given", ("wait", f(10))))

    def test_what_was_told_does_not_change(self):
        book = self.book()
        book.ask("ant", 3, EAST, None, None)
        told = state(book)
        book.ask("bee", 3, FAR, None, None)
        book.time(f(2))
        book.change("ant", part_of(EAST[0], f(0), f(7)))
        self.same(told, (f(0), (("ant", 3, EAST, None, None),), ("ant",)))


class Fit(Books):
    def test_given_as_it_is(self):
        book = self.book()
        self.same(book.fit("ant", 3, EAST, "west", None), ("given", None))
        self.same(book.fit("bee", 3, FAR, None, None), ("given", None))
        self.same(book.stand(), (("ant", 3, EAST, "west", None), ("bee", 3, FAR, None, None)))

    def test_the_first_word_that_has_an_amount(self):
        for shapes, wanted in (([LATER, HIGHER], ("wait", f(10))), ([HIGHER, LATER], ("up", f("5/4"))),
                               ([("wait", f(9)), HIGHER, LATER], ("up", f("5/4"))),
                               ([("wait", f(9)), ("wait", f(10))], ("wait", f(10)))):
            book = self.book(shapes=shapes)
            book.ask("bee", 3, WEST, None, None)
            self.same(book.fit("ant", 9, EAST, None, None), ("given", wanted))
            one = (shaped(EAST[0], wanted, f(0)), EAST[1])
            self.same(book.stand(), (("ant", 9, one, None, None), ("bee", 3, WEST, None, None)))
            self.agrees(book)

    def test_amounts(self):
        book = self.book(shapes=[LATER])
        book.ask("bee", 3, WEST, None, None)
        self.same(book.fit("ant", 9, EAST, None, None), ("given", ("wait", f(10))))
        self.same(book.stand(), (("ant", 9, by(EAST, "wait", 10), None, None), ("bee", 3, WEST, None, None)))
        self.same(book.given_order(), ("bee", "ant"))

    def test_at_most(self):
        for most, wanted in ((10, ("given", ("wait", f(10)))), ("999/100", None), (0, None)):
            book = self.book(shapes=[("wait", f(most))])
            book.ask("bee", 3, WEST, None, None)
            if wanted is None:
                self.held(book, "fit", "ant", 9, EAST, None, None, fault=("meet", "ant", "bee"))
            else:
                self.same(book.fit("ant", 9, EAST, None, None), wanted)

    def test_held(self):
        for shapes in ([], [("wait", f(1)), ("slow", f("1/10"))], [("wait", f(0)), ("up", f(0))]):
            book = self.book(shapes=shapes)
            book.ask("bee", 3, WEST, None, None)
            self.held(book, "fit", "ant", 9, EAST, None, None, fault=("meet", "ant", "bee"))
        # There is no corner to put off.
        book = self.book(shapes=[HIGHER])
        book.ask("bee", 3, EAST, None, None)
        self.held(book, "fit", "ant", 9, WEST, None, None, fault=("meet", "ant", "bee"))

    def test_now_counts(self):
        book = self.book(shapes=[("slow", f(9))])
        book.ask("bee", 3, flight((20, 5, -9, 0), (30, 5, 9, 0)), None, None)
        book.time(f(3))
        answer = book.fit("ant", 3, moved(EAST, 20), None, None)
        self.same(answer[0], "given")
        self.same(book.stand()[0][2], (shaped(moved(EAST, 20)[0], answer[1], f(3)), EAST[1]))

    def test_rooms_that_are_full_of_the_others(self):
        book = self.book([HALL], shapes=[LATER])
        book.ask("bee", 3, EAST, None, None)
        # In the room from 4 to 6, both: 2 later the other one is out of it.
        self.same(book.fit("ant", 3, HIGH, None, None), ("given", ("wait", f(2))))
        self.same(book.fit("cat", 3, flight((0, 0, 0, 7), (10, 10, 0, 7)), None, None), ("given", ("wait", f(4))))
        self.agrees(book, [HALL])
        # A room for two is full of two others.
        book = self.book([HALL[:3] + (2,)], shapes=[LATER])
        book.ask("bee", 3, EAST, None, None)
        self.same(book.fit("ant", 3, HIGH, None, None), ("given", None))
        self.same(book.fit("cat", 3, flight((0, 0, 0, 7), (10, 10, 0, 7)), None, None), ("given", ("wait", f(2))))
        self.same(book.fit("dog", 3, flight((0, 0, 0, -7), (10, 10, 0, -7)), None, None), ("given", ("wait", f(2))))

    def test_held_by_a_room(self):
        book = self.book([HALL], shapes=[("wait", f("3/2")), ("north", f(5))])
        book.ask("bee", 3, EAST, None, None)
        self.held(book, "fit", "ant", 3, HIGH, None, None, fault=("room", "hall", st(4, 0, 6)))

    def test_gates_that_are_busy_with_the_others(self):
        book = self.book(shapes=[LATER])
        book.ask("bee", 3, EAST, "west", None)
        self.same(book.fit("ant", 3, HIGH, "west", None), ("given", ("wait", f(2))))
        # From 2 to 4 it is busy, too, and its own use at the end is free.
        self.same(book.fit("cat", 3, FAR, "west", "east"), ("given", ("wait", f(4))))
        self.agrees(book)
        # A use at the end.
        book = self.book(shapes=[("slow", f(9))])
        book.ask("bee", 3, EAST, None, "west")
        self.same(book.fit("ant", 3, HIGH, None, "west"), ("given", ("slow", f("1/5"))))
        self.agrees(book)

    def test_both_gates_count(self):
        book = self.book(gates=[("west", f(2), 1), ("east", f(2), 1)], shapes=[LATER])
        book.ask("bee", 3, EAST, "west", "east")
        book.ask("cat", 3, moved(FAR, 12), None, None)
        book.ask("dog", 3, flight((2, 90, 0, 0), (13, 90, 0, 0)), None, "east")
        # The begin is free from 2 on, the end from 15 on.
        self.same(book.fit("ant", 3, HIGH, "west", "east"), ("given", ("wait", f(5))))
        self.agrees(book, gates=[("west", f(2), 1), ("east", f(2), 1)])

    def test_held_by_a_gate(self):
        book = self.book(shapes=[("wait", f(1)), ("up", f(9)), ("slow", f(9))])
        book.ask("bee", 3, EAST, "west", None)
        self.held(book, "fit", "ant", 3, HIGH, "west", None, fault=("gate", "west", st(0, 1, 2)))

    def test_no_other_is_changed(self):
        book = self.book(shapes=[LATER])
        book.ask("bee", 0, WEST, None, None)
        was = book.stand()
        book.fit("ant", 9, EAST, None, None)
        self.same(book.stand()[1:], was)


class Change(Books):
    def test_of_one_that_has_not_begun(self):
        book = self.book()
        book.ask("ant", 3, moved(EAST, 20), "west", "east")
        book.time(f(5))
        for begin in (5, 7, 30):
            new = later(WEST[0], f(begin))
            self.same(book.change("ant", new), ("changed", ()))
            self.same(book.stand(), (("ant", 3, (new, EAST[1]), "west", "east"),))
        self.refused(Past, book, "change", "ant", later(WEST[0], f("499/100")))
        self.refused(Past, book, "change", "ant", WEST[0])

    def test_of_one_that_begins_now(self):
        book = self.book()
        book.ask("ant", 3, moved(EAST, 5), None, None)
        book.time(f(5))
        self.same(book.change("ant", later(WEST[0], f(6))), ("changed", ()))
        self.same(book.change("ant", later(WEST[0], f(5))), ("changed", ()))
        self.refused(Past, book, "change", "ant", later(WEST[0], f(4)))

    def flying(self, now=4):
        book = self.book()
        book.ask("ant", 3, EAST, None, None)
        book.time(f(now))
        return book

    def test_of_one_that_flies(self):
        # The same up to now, by other corners, or by none; then whatever it may be.
        for new in (((0, 0, 0, 0), (4, 4, 0, 0), (5, 9, 9, 9)), ((0, 0, 0, 0), (1, 1, 0, 0), (4, 4, 0, 0), (5, 9, 9, 9)),
                    ((0, 0, 0, 0), (10, 10, 0, 0)), ((0, 0, 0, 0), (99, 99, 0, 0)),
                    ((0, 0, 0, 0), (2, 2, 0, 0), (3, 3, 0, 0), (5, 5, 0, 0), (6, 0, 0, 0))):
            book = self.flying()
            self.same(book.change("ant", plan_of(*new)), ("changed", ()))
            self.same(book.stand(), (("ant", 3, (plan_of(*new), EAST[1]), None, None),))
            self.same(self.flying().change("ant", listed(plan_of(*new))), ("changed", ()))

    def test_that_changes_what_is_over(self):
        for new in (((0, 0, 0, 0), (3, 3, 0, 0), (4, 4, "1/9", 0), (10, 10, 0, 0)), ((0, 1, 0, 0), (10, 10, 0, 0)),
                    ((1, 1, 0, 0), (10, 10, 0, 0)), ((-1, -1, 0, 0), (10, 10, 0, 0)), ((4, 4, 0, 0), (10, 10, 0, 0)),
                    ((5, 5, 0, 0), (10, 10, 0, 0)), ((0, 0, 0, 0), (2, 1, 0, 0), (4, 4, 0, 0), (10, 10, 0, 0))):
            self.refused(Past, self.flying(), "change", "ant", plan_of(*new))

    def test_from_the_lesser_first_moment_on(self):
        for new, wanted in (((2, 7, 8, 9), True), ((3, 8, 8, 9), False), ((1, 6, 8, 9), False), ((4, 9, 8, 9), False)):
            book = self.book()
            book.ask("ant", 3, flight((2, 7, 8, 9), (10, 15, 8, 9)), None, None)
            book.time(f(4))
            plan = plan_of(new, (5, 10, 8, 9), (6, 0, 0, 0))
            if wanted:
                self.same(book.change("ant", plan), ("changed", ()))
            else:
                self.refused(Past, book, "change", "ant", plan)

    def test_not_there_as_long_and_ended_now(self):
        self.refused(Past, self.flying(), "change", "ant", plan_of((0, 0, 0, 0), (3, 3, 0, 0)))
        book = self.flying()
        self.same(book.change("ant", plan_of((0, 0, 0, 0), (4, 4, 0, 0))), ("changed", ()))
        self.same(book.stand()[0][2][0], plan_of((0, 0, 0, 0), (4, 4, 0, 0)))
        self.same(book.time(f(4)), ("ant",))

    def test_of_one_that_is_over_and_stands(self):
        book = self.book()
        late = (EAST[0], (f(0), f(0), f(9)))
        book.ask("ant", 3, late, None, None)
        book.time(f(12))
        self.same(book.change("ant", plan_of((0, 0, 0, 0), (10, 10, 0, 0))), ("changed", ()))
        self.refused(Past, book, "change", "ant", plan_of((0, 0, 0, 0), (11, 11, 0, 0)))
        self.refused(Past, book, "change", "ant", plan_of((0, 0, 0, 0), (9, 9, 0, 0)))

    def test_held_by_those_of_no_lesser_rank(self):
        for rank in (3, 4, 9):
            book = self.book()
            book.ask("ant", 3, FAR, None, None)
            book.ask("bee", rank, EAST, None, None)
            self.held(book, "change", "ant", WEST[0], fault=("meet", "ant", "bee"))
        book = self.book([HALL])
        book.ask("bee", 3, EAST, "west", None)
        book.ask("ant", 3, moved(HIGH, 2), "west", None)
        self.held(book, "change", "ant", later(HIGH[0], f(1)), fault=("room", "hall", st(5, 0, 6)))
        self.held(book, "change", "ant", later(FAR[0], f(1)), fault=("gate", "west", st(1, 1, 2)))
        self.same(book.change("ant", later(FAR[0], f(9))), ("changed", ()))

    def test_its_own_old_plan_bars_nothing(self):
        book = self.book([HALL])
        book.ask("ant", 3, EAST, "west", None)
        self.same(book.change("ant", by(EAST, "slow", 1)[0]), ("changed", ()))

    def test_others_that_stay(self):
        book = self.book()
        book.ask("bee", 1, FAR, None, None)
        book.ask("ant", 3, EAST, None, None)
        book.ask("cat", 2, HIGH, None, None)
        self.same(book.change("ant", by(EAST, "slow", 1)[0]), ("changed", ()))
        self.same(book.given_order(), ("bee", "ant", "cat"))
        self.same(book.stand(), (("ant", 3, by(EAST, "slow", 1), None, None), ("bee", 1, FAR, None, None),
                                 ("cat", 2, HIGH, None, None)))

    def test_others_that_are_shaped_or_gone(self):
        book = self.book()
        book.ask("bee", 1, WEST, None, None)
        book.ask("ant", 3, FAR, "west", None)
        self.same(book.change("ant", EAST[0]), ("changed", (("bee", ("wait", f(10))),)))
        self.same(book.stand(), (("ant", 3, (EAST[0], FAR[1]), "west", None), ("bee", 1, by(WEST, "wait", 10), None, None)))
        self.same(book.given_order(), ("bee", "ant"))
        book = self.book(shapes=[HIGHER])
        book.ask("bee", 1, WEST, None, None)
        book.ask("ant", 3, FAR, None, None)
        self.same(book.change("ant", EAST[0]), ("changed", (("bee", None),)))
        self.same(book.stand(), (("ant", 3, (EAST[0], FAR[1]), None, None),))
        self.same(book.given_order(), ("ant",))

    def test_the_first_word(self):
        book = self.book(shapes=[("wait", f(9)), ("slow", f(99)), LATER])
        book.ask("bee", 1, flight((0, 5, -9, 0), (10, 5, 11, 0)), None, None)
        book.ask("ant", 3, FAR, None, None)
        answer = book.change("ant", EAST[0])
        self.same((answer[0], answer[1][0][0], answer[1][0][1][0]), ("changed", "bee", "wait"))
        self.agrees(book)

    def test_by_rooms_and_gates(self):
        book = self.book([HALL])
        book.ask("bee", 1, HIGH, None, None)
        book.ask("ant", 3, FAR, None, None)
        self.same(book.change("ant", EAST[0]), ("changed", (("bee", ("wait", f(2))),)))
        self.agrees(book, [HALL])
        book = self.book()
        book.ask("bee", 1, HIGH, "west", None)
        book.ask("ant", 3, moved(FAR, 5), "west", None)
        self.same(book.change("ant", FAR[0]), ("changed", (("bee", ("wait", f(2))),)))
        self.agrees(book)

    def test_shaped_at_now(self):
        book = self.book()
        north = flight((0, 5, -9, 0), (20, 5, 11, 0))
        book.ask("bee", 1, north, None, None)
        book.ask("ant", 3, flight((9, 90, 0, 0), (20, 90, 0, 0)), None, None)
        book.time(f(2))
        answer = book.change("ant", plan_of((3, -1, 0, 0), (20, 16, 0, 0)))
        self.same(answer[0], "changed")
        (name, shape), = answer[1]
        self.same((name, shape[0]), ("bee", "wait"))
        self.same(book.stand()[1][2][0], shaped(north[0], shape, f(2)))
        self.same(book.stand()[1][2][0][1], (f(2), f(5), f(-7), f(0)))

    def test_order_and_ranks(self):
        # All come by one spot: by falling rank, of one rank as they were given, each beside those ahead of it.
        book = self.book(shapes=[("wait", f(90))])
        at = {"cat": 20, "ant": 40, "dog": 60, "bee": 80, "elk": 100}
        ranks = {"cat": 1, "ant": 0, "dog": 1, "bee": 5, "elk": 2}
        for name in ("cat", "ant", "dog", "bee", "elk"):
            self.same(book.ask(name, ranks[name], (later(FAR[0], f(at[name])), FAR[1]), None, None), ("given",))
        # The changed one is there all the time up to 105.
        answer = book.change("bee", plan_of((20, 50, 0, 0), (105, 50, 0, 0)))
        self.same(answer, ("changed", (("elk", ("wait", f(5))), ("cat", None), ("dog", ("wait", f(55))),
                                       ("ant", ("wait", f(85))))))
        self.same(book.given_order(), ("ant", "dog", "bee", "elk"))
        self.same([row[2][0][0][0] for row in book.stand()], [f(125), f(20), f(115), f(105)])
        self.agrees(book)

    def test_one_that_is_gone_bars_none(self):
        book = self.book(shapes=[("wait", f(5))])
        book.ask("bee", 2, moved(FAR, 10), None, None)
        book.ask("cat", 1, moved(FAR, 20), None, None)
        book.ask("ant", 3, moved(FAR, 40), None, None)
        # It would have to wait up to 26; behind it the next one need not.
        answer = book.change("ant", plan_of((10, 50, 0, 0), (16, 50, 0, 0)))
        self.same(answer, ("changed", (("bee", None),)))
        self.same(book.given_order(), ("cat", "ant"))

    def test_one_whose_plan_is_over(self):
        book = self.book(gates=[("west", f(9), 1)])
        book.ask("bee", 1, EAST, None, "west")
        book.ask("ant", 3, moved(FAR, 30), "west", None)
        self.same(book.time(f(11)), ())
        # Up to 19 the gate is busy with one that is there no more.
        self.same(book.change("ant", later(FAR[0], f(19))), ("changed", ()))
        self.same(book.change("ant", later(FAR[0], f(18))), ("changed", (("bee", None),)))
        self.same(book.given_order(), ("ant",))

    def test_no_others_of_no_lesser_rank_are_changed(self):
        book = self.book()
        book.ask("cat", 3, HIGH, None, None)
        book.ask("bee", 1, WEST, None, None)
        book.ask("ant", 3, FAR, None, None)
        book.change("ant", EAST[0])
        self.same(book.stand()[2], ("cat", 3, HIGH, None, None))


class GiveBack(Books):
    def test_it_is_gone(self):
        book = self.book([HALL])
        book.ask("ant", 3, EAST, "west", None)
        book.ask("bee", 3, FAR, None, None)
        self.assertIsNone(book.give_back("ant"))
        self.same(book.given_order(), ("bee",))
        self.same(book.stand(), (("bee", 3, FAR, None, None),))
        # It bars nothing more, and its name is free.
        self.same(book.ask("cat", 3, WEST, "west", None), ("given",))
        self.same(book.ask("ant", 3, HIGH, None, None)[0], "held")
        self.same(book.ask("ant", 3, moved(HIGH, 2), None, None), ("given",))
        self.same(book.given_order(), ("bee", "cat", "ant"))


class Time(Books):
    def test_forth_and_by_nothing(self):
        book = self.book()
        self.same(book.time(f(0)), ())
        self.same(book.time(f("1/2")), ())
        self.same(book.now(), f("1/2"))
        self.same(book.time(f("1/2")), ())
        self.same(book.time(f(9)), ())
        self.same(book.now(), f(9))

    def test_back(self):
        book = self.book()
        self.refused(Past, book, "time", f("-1/100"))
        book.ask("ant", 3, EAST, None, None)
        book.time(f(5))
        self.refused(Past, book, "time", f("499/100"))
        self.refused(Past, book, "time", f(0))

    def test_those_that_are_over_are_gone(self):
        book = self.book()
        book.ask("cat", 3, EAST, None, None)
        book.ask("bee", 3, (HIGH[0], (f(0), f(0), f(3))), None, None)
        book.ask("ant", 3, FAR, None, None)
        self.same(book.time(f("999/100")), ())
        self.same(book.time(f(10)), ("ant", "cat"))
        self.same(book.stand(), (("bee", 3, (HIGH[0], (f(0), f(0), f(3))), None, None),))
        self.same(book.time(f("1299/100")), ())
        self.same(book.time(f(13)), ("bee",))
        self.same(state(book), (f(13), (), ()))

    def test_a_use_of_a_gate_at_the_end(self):
        # The one gate is held for 2, the other one for 3; and both for as long as it may be late.
        book = self.book()
        book.ask("ant", 3, EAST, None, "west")
        book.ask("bee", 3, (HIGH[0], (f(0), f(0), f(1))), None, "east")
        self.same(book.time(f("1199/100")), ())
        self.same(book.time(f(12)), ("ant",))
        self.same(book.time(f("1399/100")), ())
        self.same(book.time(f(14)), ("bee",))

    def test_a_use_of_a_gate_at_the_begin(self):
        book = self.book(gates=[("west", f(50), 1)])
        book.ask("ant", 3, EAST, "west", None)
        self.same(book.time(f(20)), ())
        self.same(book.time(f("4999/100")), ())
        self.same(book.time(f(50)), ("ant",))

    def test_at_once_over_many(self):
        book = self.book()
        for name, z in (("dog", 0), ("ant", 5), ("cat", 10)):
            book.ask(name, 3, flight((0, 0, 0, z), (10, 10, 0, z)), None, None)
        self.same(book.time(f(1000)), ("ant", "cat", "dog"))


def uses_of(rows, gate):
    return [use_of(gate, plan[at][0], bounds[2]) for _, _, (plan, bounds), begin, end in rows
            for at, name in ((0, begin), (-1, end)) if name == gate[0]]


class Model:
    """The book by the document's words; it tells what should be told, or the class of the refusal."""

    def __init__(self, apart, rooms, gates, shapes):
        self.apart, self.rooms, self.gates, self.shapes = apart, rooms, gates, shapes
        self.moment = f(0)
        self.rows = {}

    def fault(self, rows):
        return fault_of(rows, self.apart, self.rooms, self.gates)

    def refusal(self, name, flight_in, begin, end):
        if name in self.rows:
            return Taken
        if (begin is not None and begin == end) or {begin, end} - {gate[0] for gate in self.gates} - {None}:
            return NoGate
        return Past if number(flight_in[0][0][0]) < number(self.moment) else None

    def shape(self, row, others):
        for word, most in self.shapes:
            one = row[2]
            sets = [bad_amounts(one, word, self.moment, other[2], self.apart) for other in others]
            sets += [bad_in_room(one, word, self.moment, room, full([other[2] for other in others], room))
                     for room in self.rooms]
            for gate in self.gates:
                for side in (0, 1):
                    if row[3 + side] == gate[0]:
                        sets.append(bad_at_gate(one, word, self.moment, gate, busy(gate, uses_of(others, gate)), side))
            amount = least_out(sets, most)
            if amount is not None:
                return (word, amount)
        return None

    def shaped(self, row, shape):
        return row[:2] + ((shaped(row[2][0], shape, self.moment), row[2][1]),) + row[3:]

    def ask(self, *row):
        refusal = self.refusal(row[0], row[2], row[3], row[4])
        if refusal:
            return refusal
        fault = self.fault(list(self.rows.values()) + [row])
        if fault:
            return ("held", fault)
        self.rows[row[0]] = row
        return ("given",)

    def fit(self, *row):
        answer = self.ask(*row)
        if answer == ("given",):
            return ("given", None)
        if isinstance(answer, tuple):
            shape = self.shape(row, list(self.rows.values()))
            if shape:
                self.rows[row[0]] = self.shaped(row, shape)
                return ("given", shape)
        return answer

    def change(self, name, plan):
        if name not in self.rows:
            return NoName
        row = self.rows[name]
        old, now = row[2][0], self.moment
        if number(old[0][0]) >= number(now):
            if number(plan[0][0]) < number(now):
                return Past
        else:
            begin = min(old[0][0], plan[0][0], key=number)
            flown = part_of(plan, begin, now)
            if flown is None or not same_flights(flown, part_of(old, begin, now)):
                return Past
        new = row[:2] + ((plan, row[2][1]),) + row[3:]
        firm = [new if other == row else other for other in self.rows.values() if other[1] >= row[1]]
        fault = self.fault(firm)
        if fault:
            return ("held", fault)
        self.rows[name] = new
        told = []
        for rank in range(row[1] - 1, -1, -1):
            for other in [other for other in self.rows.values() if other[1] == rank]:
                if self.fault(firm + [other]):
                    shape = self.shape(other, firm)
                    told.append((other[0], shape))
                    if shape is None:
                        del self.rows[other[0]]
                        continue
                    other = self.rows[other[0]] = self.shaped(other, shape)
                firm.append(other)
        return ("changed", tuple(told))

    def give_back(self, name):
        return None if self.rows.pop(name, None) else NoName

    def time(self, m):
        if number(m) < number(self.moment):
            return Past
        self.moment = m
        gone = []
        for name, row in sorted(self.rows.items()):
            ends = [number(row[2][0][-1][0]) + number(row[2][1][2])]
            ends += [number(use[2]) for gate in self.gates for use in uses_of([row], gate)]
            if max(ends) <= number(m):
                gone.append(name)
                del self.rows[name]
        return tuple(gone)


class Sequences(Books):
    """Many deeds, one behind the other, beside the model."""

    def some_flight(self, rnd, now):
        begin = now + Fraction(rnd.choice((-1, 0, 1, 2, 3, 5, 8)))
        corners = [(begin, rnd.choice((-6, 0, 6)), rnd.choice((-6, 0, 6)), rnd.randint(0, 1))]
        for _ in range(rnd.randint(1, 3)):
            begin += rnd.randint(1, 6)
            corners.append((begin,) + tuple(rnd.randint(-6, 6) for _ in range(2)) + (rnd.randint(0, 1),))
        return (plan_of(*corners), tuple(some_bounds(rnd)) if rnd.random() < 0.5 else (f(0), f(0), f(0)))

    def some_deed(self, rnd, model):
        now = number(model.moment)
        name = rnd.choice(("ant", "bee", "cat", "dog", "elk", "fox"))
        kind = rnd.choice(("ask", "fit", "fit", "fit", "change", "change", "time", "give_back"))
        if kind in ("ask", "fit"):
            begin, end = rnd.choice(((None, None), (None, "west"), ("west", None), ("east", "west"), ("west", "east"),
                                     ("west", "west"), ("north", None)))
            return kind, name, rnd.randint(0, 4), self.some_flight(rnd, now), begin, end
        if kind == "change":
            plan = self.some_flight(rnd, now)[0]
            if name in model.rows and rnd.random() < 0.8:
                flown = part_of(model.rows[name][2][0], f(-99), model.moment)
                if flown is not None:
                    last = number(flown[-1][0])
                    plan = flown + plan_of(*[(last + step * rnd.randint(1, 4), rnd.randint(-6, 6), rnd.randint(-6, 6),
                                              rnd.randint(0, 1)) for step in (1, 5)][:rnd.randint(0, 2)])
            return kind, name, plan
        if kind == "time":
            return kind, f(now + Fraction(rnd.choice((-1, 0, 1, 1, 2, 3, 4)), 2))
        return kind, name

    def test_many(self):
        counts = {}
        for seed in range(90):
            rnd = random.Random(seed)
            rooms = [("hall", (f(-2), f(-2), f(-2)), (f(2), f(2), f(2)), 1),
                     ("yard", (f(-7), f(-7), f(-2)), (f(0), f(7), f(2)), 3)]
            gates = [("west", f(2), 1), ("east", f(1), 2)]
            shapes = [(rnd.choice(WORDS), f(rnd.randint(1, 9))) for _ in range(rnd.randint(1, 3))]
            book, model = Book((f(1), f(1)), rooms, gates, shapes), Model((f(1), f(1)), rooms, gates, shapes)
            for _ in range(22):
                deed, *things = self.some_deed(rnd, model)
                wanted = getattr(model, deed)(*things)
                if isinstance(wanted, type):
                    self.refused(wanted, book, deed, *things)
                    key = (deed, wanted.__name__)
                else:
                    self.same(getattr(book, deed)(*things), wanted)
                    key = (deed, wanted if wanted is None else wanted[:1] if deed != "fit" else
                           (wanted[0], bool(wanted[1])))
                    if deed == "change" and wanted[0] == "changed":
                        key = (deed, "changed", len(wanted[1]) > 0)
                counts[key] = counts.get(key, 0) + 1
                self.same(state(book), (model.moment, tuple(row for _, row in sorted(model.rows.items())),
                                        tuple(model.rows)))
                self.assertIsNone(fault_of(book.stand(), (f(1), f(1)), rooms, gates))
        for key in (("ask", ("given",)), ("ask", ("held",)), ("fit", ("given", True)), ("fit", ("given", False)),
                    ("fit", ("held", True)), ("change", "changed", True), ("change", ("held",)), ("change", "Past"),
                    ("ask", "Past"), ("fit", "Taken"), ("fit", "NoGate"), ("give_back", None)):
            self.assertGreater(counts.get(key, 0), 3, (key, counts))

    def test_fits_are_the_least(self):
        """By a look at other amounts, without anything that reckons them."""
        found = {"given": 0, "held": 0}
        for seed in range(180):
            rnd = random.Random(seed)
            rooms = [("hall", (f(-3), f(-3), f(-3)), (f(3), f(3), f(3)), 1)]
            gates = [("west", f(2), 1), ("east", f(2), 1)]
            shapes = [(rnd.choice(WORDS), f(rnd.randint(0, 6))) for _ in range(2)]
            book = Book((f(2), f(1)), rooms, gates, shapes)
            for name in ("bee", "cat", "dog"):
                book.fit(name, 3, self.some_flight(rnd, 1), *rnd.choice(((None, "west"), ("west", "east"), (None, None))))
            others = list(book.stand())
            row = ("ant", 3, self.some_flight(rnd, 1), "west", "east")

            def agrees(word, amount):
                plan = shaped(row[2][0], (word, f(amount)), f(0))
                if plan is None:
                    return False
                one = row[:2] + ((plan, row[2][1]),) + row[3:]
                return fault_of(others + [one], (f(2), f(1)), rooms, gates) is None

            answer = book.fit(*row)
            if answer == ("given", None):
                continue
            found[answer[0]] += 1
            for word, most in shapes:
                limit = number(most)
                if answer[0] == "given" and answer[1][0] == word and number(answer[1][1]) <= limit:
                    limit = number(answer[1][1])
                    self.assertTrue(agrees(word, limit))
                    for share in range(16):
                        self.assertFalse(agrees(word, limit * share / 16))
                    self.assertFalse(agrees(word, limit - Fraction(1, 10 ** 6)))
                    break
                for share in range(17):
                    self.assertFalse(agrees(word, limit * share / 16))
        self.assertGreater(min(found.values()), 14)


if __name__ == "__main__":
    unittest.main()
