"""A desk: a text of rows is read, done on a book of clearances, and answered."""

from skylanes.agree import flights_of, uses_of
from skylanes.book import Book
from skylanes.errors import BadRow, NoGate, NoName, Past, Taken
from skylanes.fractions import before
from skylanes.gates import busy, next_slot
from skylanes.meets import may_meet
from skylanes.nearness import nearest, too_near
from skylanes.rooms import fullest, over_full
from skylanes.words import plan_of, values_of, written, written_list, written_plan, written_set

# The first rows, in their order, and the kinds of their words.
ORDER = ("apart", "room", "gate", "shape")
FIRST = {
    "apart": "ABOVE ABOVE",
    "room": "NAME NUMBER NUMBER NUMBER NUMBER NUMBER NUMBER COUNT",
    "gate": "NAME ABOVE COUNT",
    "shape": "WORD FROM",
}

# Deeds and asks; behind a colon comes a plan.
FORMS = {
    "ask": "NAME RANK FROM FROM FROM GATE GATE :",
    "fit": "NAME RANK FROM FROM FROM GATE GATE :",
    "change": "NAME :",
    "back": "NAME",
    "time": "NUMBER",
    "near": "NAME NAME",
    "gap": "NAME NAME",
    "meet": "NAME NAME",
    "room": "NAME",
    "gate": "NAME",
    "slot": "NAME FROM NUMBER",
    "plan": "NAME",
    "stand": "",
}


def room_of(values):
    """The room of a first row's values, None where low isn't below high."""
    low = tuple(values[1:4])
    high = tuple(values[4:7])
    if not all([before(least, most) for least, most in zip(low, high)]):
        return None
    return (values[0], low, high, values[7])


def first_of(words):
    """What a first row tells, as a tuple; None where the words are none."""
    if words[0] not in FIRST:
        return None
    values = values_of(FIRST[words[0]].split(), words[1:])
    if values is None:
        return None
    return room_of(values) if words[0] == "room" else tuple(values)


def deed_of(words):
    """The pair (word, values) of a deed or an ask, None where the words are none."""
    if words[0] not in FORMS:
        return None
    kinds = FORMS[words[0]].split()
    if ":" not in kinds:
        values = values_of(kinds, words[1:])
        return None if values is None else (words[0], values)
    colon = len(kinds)
    if words[colon:colon + 1] != [":"]:
        return None
    values = values_of(kinds[:-1], words[1:colon])
    plan = plan_of(words[colon + 1:])
    return None if values is None or plan is None else (words[0], values + [plan])


class Sheet:
    """What is read of a text, row by row: the first rows' things, then deeds and asks."""

    def __init__(self):
        self.first = {"apart": [], "room": [], "gate": [], "shape": []}
        self.deeds = []
        self.stage = 0

    def takes_first(self, words):
        """Whether the words are a first row that may stand here; then it is taken."""
        thing = first_of(words)
        if thing is None:
            return False
        word = words[0]
        stage = ORDER.index(word)
        is_begun = len(self.first["apart"]) > 0
        if stage < self.stage or is_begun == (word == "apart"):
            return False
        if word in ("room", "gate") and thing[0] in [other[0] for other in self.first[word]]:
            return False
        self.stage = stage
        self.first[word].append(thing)
        return True

    def takes_deed(self, words):
        """Whether the words are a deed or an ask that may stand here; then it is taken."""
        deed = deed_of(words)
        if deed is None or not self.first["apart"]:
            return False
        self.stage = len(ORDER)
        self.deeds.append(deed)
        return True


def read_text(text):
    """The sheet of a text; refused with BadRow at the first row that isn't so written."""
    sheet = Sheet()
    rows = text.split("\n")
    for number, row in enumerate(rows):
        words = row.split(" ")
        if row != "" and not sheet.takes_first(words) and not sheet.takes_deed(words):
            raise BadRow(number)
    if not sheet.first["apart"]:
        raise BadRow(len(rows))
    return sheet


class Desk:
    """A book of clearances with its rooms and gates by their names."""

    def __init__(self, sheet):
        self.apart = sheet.first["apart"][0]
        self.rooms = {room[0]: room for room in sheet.first["room"]}
        self.gates = {gate[0]: gate for gate in sheet.first["gate"]}
        self.book = Book(self.apart, sheet.first["room"], sheet.first["gate"], sheet.first["shape"])

    def flight(self, name):
        """The flight of a standing one."""
        for clearance in self.book.stand():
            if clearance[0] == name:
                return clearance[2]
        raise NoName("none of that name stands")

    def room(self, name):
        """The room of that name."""
        if name not in self.rooms:
            raise NoGate("there is no such room")
        return self.rooms[name]

    def gate(self, name):
        """The gate of that name."""
        if name not in self.gates:
            raise NoGate("there is no such gate")
        return self.gates[name]


def clearance_of(values):
    """What ask and fit of a book take, of the values of a row."""
    name, rank, aside, above, late, begin, end, plan = values
    gates = [None if gate == "-" else gate for gate in (begin, end)]
    return (name, rank, (plan, (aside, above, late)), gates[0], gates[1])


def held_text(fault):
    """The answer where a fault holds something."""
    names = fault[1:] if fault[0] == "meet" else fault[1:2]
    return " ".join(["held", fault[0]] + list(names))


def shape_text(shape):
    """A shape, a blank ahead of each of its words."""
    return f" {shape[0]} {written(shape[1])}"


def do_ask(desk, values):
    """A clearance as it is."""
    name, rank, flight, begin, end = clearance_of(values)
    answer = desk.book.ask(name, rank, flight, begin, end)
    return "given" if answer[0] == "given" else held_text(answer[1])


def do_fit(desk, values):
    """A clearance by a shape, if need be."""
    name, rank, flight, begin, end = clearance_of(values)
    answer = desk.book.fit(name, rank, flight, begin, end)
    if answer[0] == "held":
        return held_text(answer[1])
    return "given" if answer[1] is None else f"given{shape_text(answer[1])}"


def do_change(desk, values):
    """Another plan for a standing one."""
    answer = desk.book.change(values[0], values[1])
    if answer[0] == "held":
        return held_text(answer[1])
    rows = []
    for name, shape in answer[1]:
        how = " gone" if shape is None else shape_text(shape)
        rows.append(f" {name}{how}")
    return "changed" + ";".join(rows)


def do_back(desk, values):
    """A clearance is given back."""
    desk.book.give_back(values[0])
    return "done"


def do_time(desk, values):
    """The time is told."""
    return written_list(desk.book.time(values[0]))


def do_near(desk, values):
    """When two are too near."""
    return written_set(too_near(desk.flight(values[0])[0], desk.flight(values[1])[0], desk.apart))


def do_gap(desk, values):
    """Where two come nearest."""
    found = nearest(desk.flight(values[0])[0], desk.flight(values[1])[0], desk.apart)
    return "-" if found is None else f"{written(found[0])} {written(found[1])}"


def do_meet(desk, values):
    """Whether two may meet."""
    return "meet" if may_meet(desk.flight(values[0]), desk.flight(values[1]), desk.apart) else "apart"


def do_room(desk, values):
    """When a room has too many, and how many it has at most."""
    room = desk.room(values[0])
    flights = flights_of(desk.book.stand())
    return f"{written_set(over_full(flights, room))} most {fullest(flights, room)[0]}"


def do_gate(desk, values):
    """When a gate is busy."""
    gate = desk.gate(values[0])
    return written_set(busy(gate, uses_of(desk.book.stand(), gate)))


def do_slot(desk, values):
    """The next moment at which a gate can be used."""
    gate = desk.gate(values[0])
    return written(next_slot(gate, uses_of(desk.book.stand(), gate), values[1], values[2]))


def do_plan(desk, values):
    """The plan of a standing one."""
    return written_plan(desk.flight(values[0])[0])


def do_stand(desk, values):
    """The names of those that stand."""
    return written_list(desk.book.given_order())


DEEDS = {
    "ask": do_ask,
    "fit": do_fit,
    "change": do_change,
    "back": do_back,
    "time": do_time,
    "near": do_near,
    "gap": do_gap,
    "meet": do_meet,
    "room": do_room,
    "gate": do_gate,
    "slot": do_slot,
    "plan": do_plan,
    "stand": do_stand,
}


def answer_of(desk, word, values):
    """The answer to a deed or an ask."""
    deed = DEEDS[word]
    try:
        return deed(desk, values)
    except Taken:
        return "refused Taken"
    except NoName:
        return "refused NoName"
    except NoGate:
        return "refused NoGate"
    except Past:
        return "refused Past"


def run(text):
    """The tuple of the answers to a text; refused with BadRow, ahead of all answers."""
    sheet = read_text(text)
    desk = Desk(sheet)
    return tuple([answer_of(desk, word, values) for word, values in sheet.deeds])
