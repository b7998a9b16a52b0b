"""What the document promises over the whole program."""

import ast
import copy
import pathlib
import random
import unittest

from helper import Base, all_listed, f, flight, listed, plan_of, some_bounds, some_plan, st
from skylanes import errors
from skylanes.agree import fault_of
from skylanes.amounts import bad_amounts, bad_at_gate, bad_in_room, least_amount, least_out
from skylanes.apart import shows_apart
from skylanes.book import Book
from skylanes.desk import run
from skylanes.fractions import before, greater, is_part, lesser, minus, over, part, plus, times, whole
from skylanes.gates import busy, next_slot, over_used, use_of
from skylanes.meets import is_meet, meet_of
from skylanes.mending import amiss, first_fault, mended
from skylanes.menucheck import shows_parted
from skylanes.menus import parted
from skylanes.nearness import gap_at, nearest, too_near
from skylanes.partings import parting, shows_parting
from skylanes.plans import fewest, later, look_plan, part_of, put_off, same_flights, spot_at
from skylanes.rooms import full, fullest, over_full, stays
from skylanes.shapes import by_shapes, shaped
from skylanes.stretches import both_of, is_in, later_by, many_of, most_in, out_from, told_set

PACKAGE = pathlib.Path(__file__).resolve().parent.parent / "skylanes"
# Each file and what it must have there, with how many things it takes.
INTERFACE = {
    "fractions": "part/2 whole/1 plus/2 minus/2 times/2 over/2 before/2 lesser/2 greater/2 is_part/1",
    "stretches": "told_set/1 is_in/2 both_of/2 many_of/2 most_in/1 out_from/2 later_by/2",
    "plans": "look_plan/1 spot_at/2 later/2 put_off/4 part_of/3 fewest/1 same_flights/2",
    "shapes": "shaped/3 by_shapes/3",
    "nearness": "gap_at/4 nearest/3 too_near/3",
    "partings": "parting/3 shows_parting/4",
    "rooms": "stays/2 full/2 over_full/2 fullest/2",
    "gates": "use_of/3 busy/2 over_used/2 next_slot/4",
    "meets": "is_meet/5 meet_of/3",
    "apart": "shows_apart/4",
    "amounts": "bad_amounts/5 bad_in_room/5 bad_at_gate/6 least_out/2 least_amount/6",
    "menus": "parted/4",
    "menucheck": "shows_parted/5",
    "mending": "mended/4 first_fault/2 amiss/5",
    "agree": "fault_of/4",
    "desk": "run/1",
}
BOOK = "ask/5 fit/5 change/2 give_back/1 time/1 now/0 stand/0 given_order/0"


def is_told(thing):
    """Whether a thing is made of tuples, whole numbers, texts, None, True and False alone."""
    if type(thing) is tuple:
        return all(is_told(inner) for inner in thing)
    return thing is None or type(thing) in (int, str, bool)


def some_calls(seed):
    """Pairs of a function and its things, all of tuples."""
    rnd = random.Random(seed)
    apart = (f(rnd.randint(1, 4), 2), f(rnd.randint(1, 4), 2))
    one, other, third = [(some_plan(rnd, far=5), some_bounds(rnd)) for _ in range(3)]
    now, m = f(rnd.randint(-9, 9), 2), f(rnd.randint(-9, 9), 3)
    word = rnd.choice(("wait", "slow", "east", "west", "north", "south", "up", "down"))
    shapes = ((word, f(2)), ("wait", f(1, 2)))
    room = ("hall", (f(-2), f(-2), f(-2)), (f(2), f(2), f(2)), 1)
    gate = ("west", f(2), 1)
    sets = tuple(tuple(st(begin, rnd.randint(0, 1), begin + rnd.randint(1, 3)) for begin in
                       [rnd.randint(-5, 5) for _ in range(rnd.randint(0, 3))]) for _ in range(3))
    uses = tuple(use_of(gate, f(rnd.randint(-5, 5)), f(1)) for _ in range(3))
    menus = (((0, ()), (2, shapes)), ((1, ()), (1, ((word, f(3)),))), ((0, shapes[1:]), (0, ())))
    rows = (("ant", 1, one), ("bee", 2, other), ("cat", 1, third))
    clearances = tuple(row + gates for row, gates in zip(rows, ((None, "west"), ("west", None), (None, None))))
    told = mended(rows, now, apart, shapes)
    best = parted([one, other, third], menus, now, apart)
    return [
        (told_set, sets[:1]), (is_in, (sets[0], m)), (both_of, sets[:2]), (many_of, (sets, 2)), (most_in, (sets,)),
        (out_from, (sets[0], m)), (later_by, (sets[0], f(1))),
        (look_plan, one[:1]), (spot_at, (one[0], m)), (later, (one[0], m)), (put_off, (one[0], m, f(1), f(2))),
        (part_of, (one[0], now, f(9))), (fewest, one[:1]), (same_flights, (one[0], other[0])),
        (shaped, (one[0], shapes[0], now)), (by_shapes, (one[0], shapes, now)),
        (gap_at, (one[0], other[0], apart, m)), (nearest, (one[0], other[0], apart)),
        (too_near, (one[0], other[0], apart)), (parting, (one[0], other[0], apart)),
        (shows_parting, (one[0], other[0], apart, parting(one[0], other[0], apart)[1])),
        (stays, (one, room)), (full, ((one, other, third), room)), (over_full, ((one, other, third), room)),
        (fullest, ((one, other, third), room)),
        (use_of, (gate, m, f(1))), (busy, (gate, uses)), (over_used, (gate, uses)), (next_slot, (gate, uses, f(1), m)),
        (is_meet, (one, other, apart, m, m)), (meet_of, (one, other, apart)),
        (shows_apart, (one, other, apart, meet_of(one, other, apart)[1])),
        (bad_amounts, (one, word, now, other, apart)), (bad_in_room, (one, word, now, room, sets[0])),
        (bad_at_gate, (one, word, now, gate, sets[0], 1)), (least_out, (sets, f(9))),
        (least_amount, (one, word, now, (other, third), apart, f(9))),
        (parted, ((one, other, third), menus, now, apart)),
        (shows_parted, ((one, other, third), menus, now, apart, best)),
        (mended, (rows, now, apart, shapes)), (first_fault, (told, apart)), (amiss, (rows, now, apart, shapes, told)),
        (fault_of, (clearances, apart, (room,), (gate,))),
    ]


class Whole(Base):
    def test_asked_again_and_of_lists(self):
        for seed in range(30):
            for function, things in some_calls(seed):
                answer = function(*things)
                self.assertTrue(is_told(answer), function.__name__)
                again = [listed(thing) for thing in things]
                were = copy.deepcopy(again)
                self.same(function(*again), answer)
                self.same(again, were)
                self.same(function(*again), answer)
                self.same(function(*things), answer)

    def test_papers_of_lists_all_through(self):
        for seed in range(30):
            for function, things in some_calls(seed):
                if function.__name__.startswith("shows_"):
                    paper = all_listed(things[-1])
                    self.same(function(*things[:-1], paper), function(*things))

    def test_fractions(self):
        for function in (plus, minus, times, over):
            self.same(function(f(1, 2), f(3, 4)), function(f(1, 2), f(3, 4)))
            self.assertTrue(is_told(function(f(1, 2), f(3, 4))))
        for function in (before, lesser, greater):
            self.assertTrue(is_told(function(f(1, 2), f(3, 4))))
        self.same((part(2, -4), whole(3), is_part([1, 2]), is_part([1, True])), (f("-1/2"), f(3), True, False))

    def test_a_book_of_lists(self):
        east = flight((0, 0, 0, 0), (5, 5, 0, 0), (10, 10, 0, 0))
        west = flight((0, 10, 0, 0), (10, 0, 0, 0), late=1)
        things = [[(f(2)), f(1)], [["hall", [f(40), f(0), f(0)], [f(50), f(1), f(1)], 1]], [["west", f(2), 1]],
                  [["wait", f(30)]]]
        were = copy.deepcopy(things)
        answers = []
        for book, form in ((Book(*things), listed), (Book(tuple(things[0]), (("hall", (f(40), f(0), f(0)), (f(50), f(1),
                           f(1)), 1),), (("west", f(2), 1),), (("wait", f(30)),)), lambda thing: thing)):
            rows = [book.ask("ant", 3, form(east), "west", None), book.ask("bee", 3, form(west), None, None),
                    book.fit("bee", 2, form(west), None, "west"), book.now(), book.stand(), book.given_order(),
                    book.change("ant", form(plan_of((0, 0, 0, 0), (30, 10, 0, 0)))), book.stand(), book.time(f(3)),
                    book.give_back("ant"), book.stand(), book.time(f(99)), book.stand()]
            self.assertTrue(is_told(tuple(rows)))
            answers.append(rows)
        self.same(answers[0], answers[1])
        self.same(things, were)

    def test_a_desk(self):
        text = "apart 2 1\nask ant 3 0 0 0 - - : 0 0 0 0 / 1/2 3 0 0\nplan ant\nnear ant ant\nstand"
        self.assertTrue(is_told(run(text)))
        self.same(run(text), run(text))

    def test_what_was_told_may_be_handed_in_again(self):
        one = flight((0, 0, 0, 0), (5, 5, 0, 0), (10, 10, 0, 0), late=1)
        shape = ("wait", least_amount(one, "wait", f(0), [flight((0, 10, 0, 0), (10, 0, 0, 0))], (f(2), f(1)), f(99)))
        plan = one[0]
        # Each shape on the way has a corner more.
        for now in range(1, 9):
            plan = shaped(plan, shape, f(now))
        self.assertGreater(len(plan), 10)
        self.same(look_plan(plan), plan)
        told = mended([("ant", 3, (plan, one[1]))], f(0), (f(2), f(1)), [])
        self.same(amiss([("ant", 3, told[0][2])], f(0), (f(2), f(1)), [], told), ())


class Interface(Base):
    def defs_of(self, name):
        tree = ast.parse((PACKAGE / f"{name}.py").read_text())
        return {node.name: node for node in tree.body if isinstance(node, (ast.FunctionDef, ast.ClassDef))}

    def test_functions(self):
        for name, rows in INTERFACE.items():
            defs = self.defs_of(name)
            for row in rows.split():
                word, many = row.split("/")
                self.assertEqual(len(defs[word].args.args), int(many), (name, word))

    def test_book(self):
        methods = {node.name: node for node in self.defs_of("book")["Book"].body if isinstance(node, ast.FunctionDef)}
        for row in (BOOK + " __init__/4").split():
            word, many = row.split("/")
            self.assertEqual(len(methods[word].args.args), int(many) + 1, word)

    def test_errors(self):
        self.same((errors.BadPlan(3).place, errors.BadRow(4).row), (3, 4))
        for name in ("BadPlan", "BadRow", "Taken", "NoName", "NoGate", "Past"):
            self.assertEqual(getattr(errors, name).__bases__, (errors.LaneError,))
        self.assertEqual(errors.LaneError.__bases__, (ValueError,))
        for name in ("Taken", "NoName", "NoGate", "Past"):
            self.assertEqual(str(getattr(errors, name)("words")), "words")

    def test_files(self):
        for name in list(INTERFACE) + ["errors", "book", "words", "planes", "wedges"]:
            self.assertTrue((PACKAGE / f"{name}.py").is_file(), name)

    def test_checkers_know_nothing_of_a_search(self):
        for name in ("apart", "menucheck"):
            drawn = {alias.name for node in ast.parse((PACKAGE / f"{name}.py").read_text()).body
                     if isinstance(node, ast.ImportFrom) for alias in node.names}
            self.assertFalse(drawn & {"meet_of", "may_meet", "parted", "parting", "fault_in", "without"}, name)


if __name__ == "__main__":
    unittest.main()
