import random
import unittest
from fractions import Fraction

from helper import Base, f, plan_of
from skylanes.agree import fault_of
from skylanes.book import Book
from skylanes.desk import run
from skylanes.errors import BadRow, LaneError
from skylanes.gates import busy, next_slot, use_of
from skylanes.meets import meet_of
from skylanes.nearness import nearest, too_near
from skylanes.rooms import fullest, over_full
from skylanes.words import figures_of, number_of, whole_of, written, written_set

EAST = "0 0 0 0 / 5 5 0 0 / 10 10 0 0"
WEST = "0 10 0 0 / 10 0 0 0"
HIGH = "0 0 0 5 / 10 10 0 5"
FAR = "0 50 0 0 / 10 50 0 0"
HALL = "room hall 4 -9 -9 6 9 9 1"

NUMBERS = ("0", "7", "-7", "10", "1/2", "-1/2", "10/3", "-100/7", "123456789012345678901234567891/7")
NO_NUMBERS = ("-", "+3", "03", "-03", "00", "-0", "+0", "1/0", "1/1", "-5/1", "2/4", "0/2", "-0/2", "1/02", "01/2",
              "1/-2", "1/+2", "1/", "/2", "/", "1/2/3", "x", "1.5", "1e3", "3-", "--3", "1/x", "x/2", "0x1", "1_0", "")
NAMES = ("a", "ant", "abcdefgh", "z", "up", "room")
NO_NAMES = ("", "abcdefghi", "Ant", "a1", "a-b", "-", "1", "a_b", "ANT", "ant.", "/", ":")
RIGHT = {
    "NUMBER": NUMBERS,
    "FROM": ("0", "1/2", "7"),
    "ABOVE": ("1/3", "7", "10"),
    "COUNT": ("1", "2", "10", "1000000"),
    "RANK": tuple("0123456789"),
    "NAME": NAMES,
    "GATE": NAMES + ("-",),
    "WORD": ("wait", "slow", "east", "west", "north", "south", "up", "down"),
    ":": (":",),
}
WRONG = {
    "NUMBER": NO_NUMBERS,
    "FROM": NO_NUMBERS + ("-1", "-1/2"),
    "ABOVE": NO_NUMBERS + ("-1", "-1/2", "0"),
    "COUNT": ("0", "-1", "1/2", "3/2", "4/2", "01", "x", "", "+1", "-", "-0"),
    "RANK": ("10", "-1", "1/2", "01", "00", "a", "", "-", "-0", "+1"),
    "NAME": NO_NAMES,
    "GATE": tuple(name for name in NO_NAMES if name != "-") + ("--",),
    "WORD": ("stay", "Wait", "", "upp", "u", "left", "0", "-"),
    ":": ("", ";", "::", "/", "-"),
}
FIRST = {
    "apart": "ABOVE ABOVE",
    "room": "NAME NUMBER NUMBER NUMBER NUMBER NUMBER NUMBER COUNT",
    "gate": "NAME ABOVE COUNT",
    "shape": "WORD FROM",
}
DEEDS = {
    "ask": "NAME RANK FROM FROM FROM GATE GATE :",
    "fit": "NAME RANK FROM FROM FROM GATE GATE :",
    "change": "NAME :",
    "back": "NAME",
    "time": "NUMBER",
    "near": "NAME NAME",
    "gap": "NAME NAME",
    "meet": "NAME NAME",
    "room": "NAME",
    "gate": "NAME",
    "slot": "NAME FROM NUMBER",
    "plan": "NAME",
    "stand": "",
}
SOME = {"NUMBER": "3", "FROM": "2", "ABOVE": "2", "COUNT": "1", "RANK": "4", "NAME": "ant", "GATE": "-",
        "WORD": "wait", ":": ":"}
NO_PLANS = ("", "0 0 0 0", "0 0 0 0 /", "/ 0 0 0 0", "0 0 0 0 / 1 0 0", "0 0 0 / 1 0 0 0", "0 0 0 0 / 1 0 0 0 0",
            "0 0 0 0 / 1 0 0 0 /", "0 0 0 0 1 0 0 0", "0 0 0 0 / / 1 0 0 0", "0 0 0 0 : 1 0 0 0",
            "0 0 0 0 / 0 0 0 0", "1 0 0 0 / 0 0 0 0", "0 0 0 0 / 1 0 0 0 / 1 0 0 0", "0 0 0 0  / 1 0 0 0",
            "0 0 0 0/1 0 0 0", "0 0 0 0 / 1 0 0 x", "0 0 0 0 / 1 0 0 -0", "0 0 0 0 / 2/2 0 0 0",
            "0 0 0 0 / 1 0 0 0 ", " 0 0 0 0 / 1 0 0 0", "0 0 0 0 // 1 0 0 0", "0 0 0 0 / 1 0 0 0 / 2 0 0",
            "1/2 0 0 0 / 1/3 0 0 0", "0 0 0 0 / 01 0 0 0")
PLANS = (EAST, WEST, "-7 0 0 0 / -13/2 1/2 -1/2 0", "0 0 0 0 / 1/3 0 0 0 / 1/2 0 0 0 / 1 0 0 0")


def text_of(*rows):
    return "\n".join(rows)


class Desks(Base):
    def bad(self, row, text):
        with self.assertRaises(LaneError) as caught:
            run(text)
        self.assertIs(type(caught.exception), BadRow)
        self.same(caught.exception.row, row)

    def tells(self, rows, *wanted):
        text = rows if isinstance(rows, str) else text_of(*rows)
        answers = run(text)
        self.same(answers, wanted)
        self.same(run(text), wanted)


class Written(Desks):
    """How rows are written."""

    def row(self, word, kinds):
        return " ".join([word] + [SOME[kind] for kind in kinds.split()])

    def rows_like(self, word, kinds, words):
        """A row with each of its words otherwise, one at a time."""
        kinds = kinds.split()
        for at, kind in enumerate(kinds):
            for other in words[kind]:
                yield " ".join([word] + [other if place == at else SOME[there] for place, there in enumerate(kinds)])

    def room(self, **otherwise):
        words = dict(name="ant", x="1", y="1", z="1", far="4", deep="4", high="4", most="1")
        words.update(otherwise)
        return "room " + " ".join(words.values())

    def deed(self, word, kinds, plan=EAST):
        row = self.row(word, kinds)
        return f"{row} {plan}" if kinds.endswith(":") else row

    def spoilt_rows(self, row):
        """Too few and too many words, two blanks, a blank at either end."""
        words = row.split(" ")
        yield from (row + " ", " " + row, row + " x", row + " 1", row.upper(), row + " /", row + " :")
        if len(words) > 1:
            yield from (" ".join(words[:-1]), row.replace(" ", "  ", 1), " ".join(words[:1] + words[2:]),
                        "".join(words), row.replace(" ", "\t", 1), " ".join(words[:1] + [""] + words[1:]))

    def test_first_rows(self):
        for word, kinds in FIRST.items():
            if word == "room":
                continue
            ahead = [] if word == "apart" else ["apart 2 1", ""]
            for row in self.rows_like(word, kinds, RIGHT):
                self.tells(ahead + [row])
            for row in self.rows_like(word, kinds, WRONG):
                self.bad(len(ahead), text_of(*ahead, row))
            for row in self.spoilt_rows(self.row(word, kinds)):
                self.bad(len(ahead), text_of(*ahead, row, "stand"))

    def test_rooms(self):
        self.tells(["apart 2 1", self.room()])
        for name, at in (("x", "far"), ("y", "deep"), ("z", "high")):
            for low, high in (("4", "4"), ("5", "4"), ("1/2", "1/3"), ("-1", "-2"), ("9/2", "4")):
                self.bad(1, text_of("apart 2 1", self.room(**{name: low, at: high})))
            for low, high in (("-2", "-1"), ("1/3", "1/2"), ("0", "100"), ("-1/2", "0")):
                self.tells(["apart 2 1", self.room(**{name: low, at: high})])
            for other in NO_NUMBERS:
                self.bad(1, text_of("apart 2 1", self.room(**{name: other})))
                self.bad(1, text_of("apart 2 1", self.room(**{at: other})))
        for name in NO_NAMES:
            self.bad(1, text_of("apart 2 1", self.room(name=name)))
        for name in NAMES:
            self.tells(["apart 2 1", self.room(name=name)])
        for most in WRONG["COUNT"]:
            self.bad(1, text_of("apart 2 1", self.room(most=most)))
        for row in self.spoilt_rows(self.room()):
            self.bad(1, text_of("apart 2 1", row))

    def test_deeds_and_asks(self):
        for word, kinds in DEEDS.items():
            plan = " " + EAST if kinds.endswith(":") else ""
            for row in self.rows_like(word, kinds, RIGHT):
                self.assertEqual(len(run(text_of("apart 2 1", row + plan))), 1)
            for row in self.rows_like(word, kinds, WRONG):
                self.bad(1, text_of("apart 2 1", row + plan))
            for row in self.spoilt_rows(self.deed(word, kinds)):
                self.bad(2, text_of("apart 2 1", "stand", row, "stand"))

    def test_plans(self):
        for word in ("ask", "fit", "change"):
            for plan in NO_PLANS:
                self.bad(1, text_of("apart 2 1", self.deed(word, DEEDS[word], plan)))
            for plan in PLANS:
                self.assertEqual(len(run(text_of("apart 2 1", self.deed(word, DEEDS[word], plan)))), 1)
        self.bad(1, text_of("apart 2 1", f"change ant {EAST}"))
        self.bad(1, text_of("apart 2 1", f"change : {EAST}"))
        self.bad(1, text_of("apart 2 1", f"ask ant 3 0 0 0 - - {EAST}"))
        self.bad(1, text_of("apart 2 1", "change ant :"))
        self.bad(1, text_of("apart 2 1", "change ant"))
        self.bad(1, text_of("apart 2 1", "ask ant 3 0 0 0 - -"))

    def test_other_words(self):
        for row in ("stop", "x", "Stand", "stands", "asks ant", "0", "-", " ", "  ", "/", "stand -", "apart", "shape"):
            self.bad(1, text_of("apart 2 1", row))

    def test_the_order_of_first_rows(self):
        apart, room, gate, shape = "apart 2 1", HALL, "gate west 2 1", "shape wait 3"
        self.tells([apart])
        self.tells([apart, room, gate, shape])
        self.tells([apart, room, "room yard 0 0 0 1 1 1 9", gate, "gate east 1/2 2", shape, "shape up 0"])
        self.tells([apart, gate])
        self.tells([apart, shape])
        self.tells([apart, room, shape])
        for rows, row in (([apart, gate, room], 2), ([apart, shape, gate], 2), ([apart, shape, room], 2),
                          ([apart, room, gate, room.replace("hall", "yard")], 3), ([apart, apart], 1),
                          ([apart, room, apart], 2), ([room, apart], 0), ([gate], 0), ([shape, apart], 0),
                          ([apart, gate, shape, "gate east 1 1"], 3), ([apart, shape, apart], 2)):
            self.bad(row, text_of(*rows))
            self.bad(row, text_of(*rows, "stand"))

    def test_first_rows_behind_deeds(self):
        for row in ("apart 2 1", HALL, "gate west 2 1", "shape wait 3"):
            for deed in ("stand", "time 3", "room hall", "gate west"):
                self.bad(2, text_of("apart 2 1", deed, row))
                self.bad(3, text_of("apart 2 1", "", deed, row))

    def test_names_twice(self):
        self.bad(2, text_of("apart 2 1", HALL, HALL))
        self.bad(3, text_of("apart 2 1", HALL, "room yard 0 0 0 1 1 1 1", "room hall 0 0 0 1 1 1 1"))
        self.bad(2, text_of("apart 2 1", "gate west 2 1", "gate west 3 1"))
        # A room and a gate may have one name, a word may come twice.
        self.tells(["apart 2 1", HALL, "gate hall 2 1", "shape wait 3", "shape wait 4", "shape wait 4"])

    def test_the_first_row_is_the_apart_row(self):
        for row in ("stand", "room hall", HALL, "gate west 2 1", "time 3", "x", " "):
            self.bad(0, row)
            self.bad(0, text_of(row, "apart 2 1"))
            self.bad(2, text_of("", "", row, "apart 2 1"))

    def test_empty_rows(self):
        self.tells("\n\napart 2 1\n\n\nstand\n\n\nstand\n\n", "-", "-")
        self.tells("apart 2 1\n")
        self.tells("apart 2 1")
        self.bad(5, "\napart 2 1\n\n\n\nstand -\n")

    def test_empty_rows_alone(self):
        self.bad(1, "")
        self.bad(2, "\n")
        self.bad(5, "\n\n\n\n")

    def test_bad_row_goes_ahead_of_all_answers(self):
        ahead = ["apart 2 1", "", f"ask ant 3 0 0 0 - - : {EAST}", f"ask ant 3 0 0 0 - - : {EAST}",
                 f"ask bee 3 0 0 0 - - : {WEST}", "back cat", "time -1"]
        self.tells(ahead, "given", "refused Taken", "held meet ant bee", "refused NoName", "refused Past")
        self.bad(7, text_of(*ahead, "nothing"))
        self.bad(7, text_of(*ahead, "time -0", "nothing", ""))
        # The first such row.
        self.bad(3, text_of(*ahead[:3], "time +1", *ahead[3:], "nothing"))


class Answers(Desks):
    def test_given_and_held(self):
        self.tells(["apart 2 1", HALL, "gate west 2 1", "gate east 3 1",
                    f"ask ant 3 0 0 0 west east : {EAST}",
                    f"ask bee 3 0 0 0 - - : {WEST}",
                    f"ask bee 3 0 0 0 - - : {HIGH}",
                    f"ask bee 3 0 0 0 west - : {FAR}",
                    f"ask aa 9 0 0 0 - - : {WEST}",
                    f"ask bee 3 0 0 0 - - : {FAR}"],
                   "given", "held meet ant bee", "held room hall", "held gate west", "held meet aa ant", "given")

    def test_fit(self):
        self.tells(["apart 2 1", "shape wait 9", "shape up 4", "shape slow 9",
                    f"fit ant 3 0 0 0 - - : {WEST}",
                    f"fit bee 3 0 0 0 - - : {EAST}",
                    "plan bee",
                    f"fit cat 3 0 0 0 - - : 0 0 0 0 / 10 0 0 0",
                    f"fit dog 3 20 0 0 - - : {WEST}",
                    "stand"],
                   "given", "given up 5/4", "0 0 0 0 / 5 5 0 5/4 / 10 10 0 0", "held meet ant cat",
                   "held meet ant dog", "ant bee")
        self.tells(["apart 2 1", HALL, "shape wait 9", f"fit ant 3 0 0 0 - - : {EAST}", f"fit bee 3 0 0 0 - - : {HIGH}",
                    "plan bee"], "given", "given wait 2", "2 0 0 5 / 12 10 0 5")
        self.tells(["apart 2 1", HALL, "shape wait 3/2", f"fit ant 3 0 0 0 - - : {EAST}",
                    f"fit bee 3 0 0 0 - - : {HIGH}"], "given", "held room hall")

    def test_bounds(self):
        base = ["apart 2 1", f"ask ant 3 0 0 0 - - : {FAR}"]
        for bounds, off, wanted in (("0 0 0", "52 0 0", "given"), ("1/2 0 0", "52 0 0", "held meet ant bee"),
                                    ("0 1/2 0", "50 0 1", "held meet ant bee"), ("1/2 0 1/2", "50 0 1", "given")):
            self.tells(base + [f"ask bee 3 {bounds} - - : 0 {off} / 10 {off}"], "given", wanted)
        self.tells(base + ["ask bee 3 0 0 0 - - : 10 50 0 0 / 20 50 0 0", "back bee",
                           "ask bee 3 0 0 3 - - : 10 50 0 0 / 20 50 0 0", "back ant",
                           f"ask ant 3 0 0 1/2 - - : {FAR}"],
                   "given", "given", "done", "given", "done", "held meet ant bee")

    def test_ranks_and_change(self):
        self.tells(["apart 2 1", "shape wait 30",
                    f"ask ant 5 0 0 0 - - : {FAR}",
                    f"ask bee 4 0 0 0 - - : {WEST}",
                    "ask cat 3 0 0 0 - - : 15 9 0 0 / 20 9 0 0",
                    f"change ant : {EAST}",
                    "stand",
                    f"change bee : {EAST}",
                    f"change ant : {FAR}",
                    "plan bee"],
                   "given", "given", "given", "changed bee wait 10", "ant bee cat", "held meet ant bee", "changed",
                   "10 10 0 0 / 20 0 0 0")
        self.tells(["apart 2 1", "shape wait 15",
                    f"ask ant 5 0 0 0 - - : {FAR}",
                    "ask bee 4 0 0 0 - - : 20 0 0 0 / 25 0 0 0",
                    "ask cat 3 0 0 0 - - : 0 0 0 0 / 4 0 0 0",
                    "ask dog 2 0 0 0 - - : 10 0 0 0 / 14 0 0 0",
                    "ask elk 1 0 0 0 - - : 40 0 0 0 / 44 0 0 0",
                    "change ant : 0 0 0 0 / 24 0 0 0",
                    "stand"],
                   "given", "given", "given", "given", "given", "changed bee wait 4; cat gone; dog gone", "ant bee elk")

    def test_changed_of_one_and_of_two(self):
        head = ["apart 2 1", "shape wait 9/2", f"ask ant 5 0 0 0 - - : {FAR}"]
        bee = "ask bee 4 0 0 0 - - : 1/2 0 0 0 / 5 0 0 0"
        cat = "ask cat 3 0 0 0 - - : 5 0 0 0 / 8 0 0 0"
        self.tells(head + [bee, "change ant : 0 0 0 0 / 2 0 0 0"], "given", "given", "changed bee wait 3/2")
        self.tells(head + [bee, "change ant : 0 0 0 0 / 8 0 0 0"], "given", "given", "changed bee gone")
        self.tells(head + [bee, cat, "change ant : 0 0 0 0 / 2 0 0 0"], "given", "given", "given",
                   "changed bee wait 3/2; cat wait 3/2")

    def test_back(self):
        self.tells(["apart 2 1", f"ask ant 3 0 0 0 - - : {EAST}", "back ant", "back ant", "stand"],
                   "given", "done", "refused NoName", "-")

    def test_time(self):
        self.tells(["apart 2 1", "gate west 2 1",
                    f"ask cat 3 0 0 0 - west : {EAST}", f"ask bee 3 0 0 1/2 - - : {HIGH}", f"ask ant 3 0 0 0 - - : {FAR}",
                    "time 9", "time 9", "time 17/2", "time 10", "time 21/2", "time 12", "stand"],
                   "given", "given", "given", "-", "-", "refused Past", "ant", "bee", "cat", "-")
        self.tells(["apart 2 1", f"ask cat 3 0 0 0 - - : {EAST}", f"ask ant 3 0 0 0 - - : {FAR}", "time 99"],
                   "given", "given", "ant cat")

    def test_refusals(self):
        self.tells(["apart 2 1", HALL, "gate west 2 1",
                    f"ask ant 3 0 0 0 - - : {EAST}",
                    f"ask ant 3 0 0 0 - - : {FAR}", f"fit ant 3 0 0 0 - - : {FAR}",
                    f"ask bee 3 0 0 0 north - : {FAR}", f"fit bee 3 0 0 0 - north : {FAR}",
                    f"ask bee 3 0 0 0 west west : {FAR}", f"ask bee 3 0 0 0 hall - : {FAR}",
                    "ask bee 3 0 0 0 - - : -1 50 0 0 / 9 50 0 0",
                    "change bee : 0 0 0 0 / 1 0 0 0", "change ant : -1 0 0 0 / 1 0 0 0", "back bee", "time -1/2",
                    "near ant bee", "near bee ant", "gap bee bee", "meet bee ant", "plan bee", "room west", "gate hall",
                    "slot hall 0 0", "stand"],
                   "given", "refused Taken", "refused Taken", "refused NoGate", "refused NoGate", "refused NoGate",
                   "refused NoGate", "refused Past", "refused NoName", "refused Past", "refused NoName", "refused Past",
                   "refused NoName", "refused NoName", "refused NoName", "refused NoName", "refused NoName",
                   "refused NoGate", "refused NoGate", "refused NoGate", "ant")

    def test_near_and_gap(self):
        # Bounds count nothing here; both pass one another 2 apart, or nearer by late alone.
        self.tells(["apart 2 1", f"ask ant 3 0 0 0 - - : {EAST}", "ask bee 3 0 0 0 - - : 0 10 2 0 / 10 0 2 0",
                    "ask cat 3 0 0 0 - - : 20 0 0 0 / 30 0 0 0",
                    "near ant bee", "gap ant bee", "gap bee ant", "near ant cat", "gap ant cat", "near ant ant",
                    "gap ant ant", "near cat cat", "gap cat cat"],
                   "given", "given", "given", "-", "1 4", "1 4", "-", "-", "[0 10)", "0 0", "[20 30)", "0 20")

    def test_meet(self):
        self.tells(["apart 2 1", f"ask ant 3 0 0 0 - - : {EAST}", f"ask bee 3 0 0 0 - - : {HIGH}", "meet ant bee",
                    "meet bee ant", "meet ant ant"], "given", "given", "apart", "apart", "meet")

    def test_room(self):
        rooms = [HALL, HALL.replace("hall", "pair")[:-1] + "2", "room nook 90 0 0 91 1 1 1"]
        self.tells(["apart 2 1"] + rooms + ["room hall", "room nook"], "- most 0", "- most 0")
        rows = ["apart 2 1"] + rooms[1:] + [f"ask ant 3 0 0 0 - - : {EAST}", "room pair", f"ask bee 3 0 0 0 - - : {HIGH}",
                                            "room pair", "room nook"]
        self.tells(rows, "given", "- most 1", "given", "- most 2", "- most 0")

    def test_gate_and_slot(self):
        rows = ["apart 2 1", "gate west 2 1", "gate east 3 2", "gate", "slot"]
        self.bad(3, text_of(*rows[:4]))
        self.tells(rows[:3] + ["gate west", "slot west 0 5", "slot west 0 -1/2",
                               f"ask ant 3 0 0 0 west east : {EAST}",
                               "gate west", "gate east", "slot west 0 0", "slot west 1/2 0", "slot west 0 -5", "slot west 1/2 -2",
                               "ask bee 3 0 0 1 west east : 3 50 0 0 / 10 50 0 0",
                               "gate west", "gate east", "slot west 0 0", "slot west 0 1", "slot east 1 9"],
                   "-", "5", "-1/2", "given", "[0 2)", "-", "2", "2", "-5", "2", "given", "[0 2) [3 6)", "[10 13)", "6",
                   "6", "13")

    def test_stretches(self):
        self.assertEqual(written_set(()), "-")
        self.assertEqual(written_set(((f(0), 1, f("1/2")), (f("1/2"), 0, f(3)), (f(-4, 3), 0, None))),
                         "[0 1/2) (1/2 3) (-4/3 -)")
        self.tells(["apart 2 1", "ask ant 3 0 0 0 - - : 1/2 0 0 0 / 1 0 0 0", "near ant ant"], "given", "[1/2 1)")

    def test_plan_and_stand(self):
        self.tells(["apart 2 1", "ask cat 3 0 0 0 - - : 0 -1/2 0 0 / 1/2 10/3 -7 0 / 4 0 0 0",
                    f"ask ant 3 0 0 0 - - : {FAR}", "plan cat", "plan ant", "stand", "time 2", "back cat", "stand"],
                   "given", "given", "0 -1/2 0 0 / 1/2 10/3 -7 0 / 4 0 0 0", FAR, "cat ant", "-", "done", "ant")

    def test_names_like_words(self):
        self.tells(["apart 2 1", "room gate 0 0 0 1 1 1 1", "gate room 2 1", f"ask up 3 0 0 0 room - : {FAR}",
                    f"ask gone 2 0 0 0 - - : {HIGH}", "room gate", "gate room", "stand"],
                   "given", "given", "- most 0", "[0 2)", "up gone")

    def test_no_deeds(self):
        self.tells(["apart 2 1", HALL, "gate west 2 1", "shape wait 3"])

    def test_runs_are_apart_from_one_another(self):
        text = text_of("apart 2 1", f"ask ant 3 0 0 0 - - : {EAST}", "stand")
        self.same(run(text), ("given", "ant"))
        self.same(run(text), ("given", "ant"))


class LongNumbers(Desks):
    def test_read_and_written(self):
        for many in (1, 59, 60, 61, 119, 120, 121, 400, 4400, 9001):
            for figures in ("1" + "0" * (many - 1), "9" * many, ("1234567890" * many)[:many]):
                self.assertEqual(figures_of(whole_of(figures)), figures)
                self.same(number_of("-" + figures), (-whole_of(figures), 1))
                self.assertEqual(written((-whole_of(figures), 7)), f"-{figures}/7")
        self.assertEqual(figures_of(10 ** 60), "1" + "0" * 60)
        self.assertEqual(figures_of(10 ** 60 - 1), "9" * 60)
        self.assertEqual(figures_of(0), "0")
        self.same(whole_of("1" + "0" * 5000) - 10 ** 5000, 0)

    def test_long_answers(self):
        # Many bottoms of some hundred figures: what comes of them has some thousands.
        def odd(at):
            return "1" * 250 + str(at) + "7" * 20

        plan = " / ".join(f"{m} {at}/{odd(10 + at)} {at + 1}/{odd(20 + at)} 0" for m, at in ((0, 1), (5, 3)))
        other = " / ".join(f"{m} {at}/{odd(30 + at)} {at + 2}/{odd(40 + at)} 5" for m, at in ((0, 5), (7, 7)))
        rows = [f"apart {odd(1)}/{odd(3)} 1/{odd(2)}", f"ask ant 3 0 0 0 - - : {plan}", f"ask bee 3 0 0 0 - - : {other}",
                "gap ant bee", "plan ant", "meet ant bee"]
        answers = run(text_of(*rows))
        self.same((answers[:2], answers[3:]), (("given", "given"), (plan, "apart")))
        self.assertLess(len(text_of(*rows)), 4000)
        self.same(number_of(answers[2].split(" ")[0])[0] > 0, True)

    def test_answers_of_thousands_of_figures(self):
        big = "9" * 399
        ends = [f"{at}{'3' * 398}/{'1' * (280 + at)}3" for at in range(1, 8)]
        ends = [end for end in ends if number_of(end) is not None]
        first = f"0 {ends[0]} {ends[1]} 0 / {big} 0 0 0"
        second = f"1/{big[:298]}7 0 {ends[2]} 2 / 3 {ends[3]} 0 3"
        text = text_of("apart 1/7 1/3", f"ask ant 3 0 0 0 - - : {first}", f"ask bee 3 0 0 0 - - : {second}", "gap ant bee")
        answers = run(text)
        self.same(answers[:2], ("given", "given"))
        gap, moment = answers[2].split(" ")
        self.assertGreater(len(gap) + len(moment), 1500)
        found = nearest(plan_text(first), plan_text(second), (f("1/7"), f("1/3")))
        self.same((number_of(gap), number_of(moment)), found)


def plan_text(text):
    return tuple(tuple(number_of(word) for word in corner.split(" ")) for corner in text.split(" / "))


def text_of_number(pair):
    return str(Fraction(*pair))


def text_of_set(stretches):
    rows = []
    for begin, held, end in stretches:
        rows.append(f"{'[' if held else '('}{Fraction(*begin)} {'-' if end is None else Fraction(*end)})")
    return " ".join(rows) or "-"


class Sequences(Desks):
    """Many rows, beside a book by itself."""

    head = ["apart 1 1", "room hall -3 -3 -3 3 3 3 1", "room yard -9 0 -9 9 9 9 2", "gate west 2 1", "gate east 1 2",
            "shape wait 6", "shape up 3", "shape slow 2"]
    rooms = {"hall": ("hall", (f(-3),) * 3, (f(3),) * 3, 1), "yard": ("yard", (f(-9), f(0), f(-9)), (f(9),) * 3, 2)}
    gates = {"west": ("west", f(2), 1), "east": ("east", f(1), 2)}
    shapes = [("wait", f(6)), ("up", f(3)), ("slow", f(2))]
    apart = (f(1), f(1))

    def some_row(self, rnd, now):
        name, other = rnd.choice(("ant", "bee", "cat", "dog")), rnd.choice(("ant", "bee", "cat", "dog"))
        gate = rnd.choice(("west", "east", "north"))
        word = rnd.choice(["fit"] * 5 + ["ask"] * 2 + ["change"] * 3 + [
            "back", "time", "time", "near", "gap", "meet", "room", "gate", "slot", "plan", "stand"])
        begin = now + rnd.randint(0, 4)
        corners = []
        for _ in range(rnd.randint(2, 4)):
            corners.append(" ".join(str(value) for value in (begin, rnd.randint(-5, 5), rnd.randint(-5, 5),
                                                             Fraction(rnd.randint(-3, 3), 2))))
            begin += rnd.randint(1, 5)
        plan = " / ".join(corners)
        gates = rnd.choice(("- -", "west -", "east west", "- west", "- -"))
        return {"ask": f"ask {name} {rnd.randint(0, 3)} 0 1/2 0 {gates} : {plan}",
                "fit": f"fit {name} {rnd.randint(0, 3)} 1/2 0 1 {gates} : {plan}",
                "change": f"change {name} : {plan}", "back": f"back {name}",
                "time": f"time {now + Fraction(rnd.randint(-1, 4), 2)}", "near": f"near {name} {other}",
                "gap": f"gap {name} {other}", "meet": f"meet {name} {other}",
                "room": f"room {rnd.choice(('hall', 'yard', 'attic'))}", "gate": f"gate {gate}",
                "slot": f"slot {gate} 1/2 {now}", "plan": f"plan {name}", "stand": "stand"}[word]

    def held(self, fault):
        return "held " + " ".join(fault[:3] if fault[0] == "meet" else fault[:2])

    def deed(self, book, words):
        word = words[0]
        if word in ("ask", "fit"):
            numbers = [number_of(text) for text in words[3:6]]
            gates = [None if text == "-" else text for text in words[6:8]]
            answer = getattr(book, word)(words[1], int(words[2]), (plan_text(" ".join(words[9:])), numbers), *gates)
            if answer[0] == "held":
                return self.held(answer[1])
            if len(answer) == 1 or answer[1] is None:
                return "given"
            return f"given {answer[1][0]} {text_of_number(answer[1][1])}"
        if word == "change":
            answer = book.change(words[1], plan_text(" ".join(words[3:])))
            if answer[0] == "held":
                return self.held(answer[1])
            rows = [f"{name} gone" if shape is None else f"{name} {shape[0]} {text_of_number(shape[1])}"
                    for name, shape in answer[1]]
            return "changed " + "; ".join(rows) if rows else "changed"
        if word == "back":
            book.give_back(words[1])
            return "done"
        return " ".join(book.time(number_of(words[1]))) or "-"

    def ask(self, book, words):
        word = words[0]
        stand = {row[0]: row for row in book.stand()}
        flights = [row[2] for row in book.stand()]
        if word == "stand":
            return " ".join(book.given_order()) or "-"
        if word in ("near", "gap", "meet", "plan"):
            if any(name not in stand for name in words[1:]):
                return "refused NoName"
            one, other = stand[words[1]][2], stand[words[-1]][2]
            if word == "near":
                return text_of_set(too_near(one[0], other[0], self.apart))
            if word == "gap":
                found = nearest(one[0], other[0], self.apart)
                return "-" if found is None else " ".join(map(text_of_number, found))
            if word == "meet":
                return "meet" if meet_of(one, other, self.apart)[0] == "meet" else "apart"
            return " / ".join(" ".join(map(text_of_number, corner)) for corner in one[0])
        if word == "room":
            if words[1] not in self.rooms:
                return "refused NoGate"
            room = self.rooms[words[1]]
            return f"{text_of_set(over_full(flights, room))} most {fullest(flights, room)[0]}"
        if words[1] not in self.gates:
            return "refused NoGate"
        gate = self.gates[words[1]]
        uses = [use_of(gate, plan[at][0], bounds[2]) for _, _, (plan, bounds), begin, end in book.stand()
                for at, name in ((0, begin), (-1, end)) if name == gate[0]]
        if word == "gate":
            return text_of_set(busy(gate, uses))
        return text_of_number(next_slot(gate, uses, number_of(words[2]), number_of(words[3])))

    def test_many(self):
        seen = {}
        for seed in range(70):
            rnd = random.Random(seed)
            book = Book(self.apart, list(self.rooms.values()), list(self.gates.values()), self.shapes)
            rows, wanted = list(self.head), []
            for _ in range(25):
                row = self.some_row(rnd, Fraction(*book.now()))
                rows.append(row)
                words = row.split(" ")
                try:
                    deed = words[0] in ("ask", "fit", "change", "back", "time")
                    wanted.append(self.deed(book, words) if deed else self.ask(book, words))
                except LaneError as error:
                    wanted.append(f"refused {type(error).__name__}")
                key = (words[0], wanted[-1].split(" ")[0])
                seen[key] = seen.get(key, 0) + 1
                rows.extend([""] * rnd.choice((0, 0, 1)))
            self.same(run("\n".join(rows)), tuple(wanted))
            self.assertIsNone(fault_of(book.stand(), self.apart, list(self.rooms.values()), list(self.gates.values())))
        for key in (("ask", "given"), ("ask", "held"), ("fit", "given"), ("fit", "held"), ("change", "changed"),
                    ("change", "held"), ("change", "refused"), ("back", "done"), ("meet", "apart"), ("meet", "meet")):
            self.assertGreater(seen.get(key, 0), 3, (key, seen))


class Plans(Base):
    def test_plan_of_the_tests(self):
        self.same(plan_text(EAST), plan_of((0, 0, 0, 0), (5, 5, 0, 0), (10, 10, 0, 0)))


if __name__ == "__main__":
    unittest.main()
