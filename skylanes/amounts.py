"""How little of a shape is enough: the amounts with which a flight is still in the way, and the least one without.

A thread is a tuple (scaled, time, sides, limits, box): a piece of a shaped plan, for all amounts at once.
time and the three sides are forms (number, along, t, off): how far one is along the piece, the own moment
t of another flight, and how far the shape puts the piece off there. limits are rows, pairs (form, strict),
of what is from 0 on, or above 0 where strict is 1. box has for time, x, y, z the pair of what it is at
least and at most, None where that isn't known.

Where scaled is 0 off is the amount itself. Where it is 1 off is the amount times along, and along is above
0: so all forms are taken over along, and hang straight on 1 over along, t over along, and the amount. (A
corner at which along would be 0 may be left out: what is near there, or in a room, is so just behind it.)
"""

from skylanes.fractions import before, greater, lesser, minus, plus, times, whole
from skylanes.gates import use_of
from skylanes.planes import fault_in, plane_of, range_in, without
from skylanes.plans import tupled
from skylanes.rooms import walls_of
from skylanes.shapes import WAYS, cut_at, shaped
from skylanes.stretches import out_from, told_set
from skylanes.wedges import BACK, NOUGHT, ONCE, negative, piece_between, sizes_of

# How the moment that a piece was flown at hangs on along, where along is that moment itself.
AS_IT_IS = ((0, 1), (1, 1))
NO_WAY = (0, 0, 0)


def rows_between(form, low, high, stricts):
    """The rows by which a form is between two numbers; high None holds it from below alone."""
    rows = [((minus(form[0], low),) + form[1:], stricts[0])]
    if high is not None:
        back = tuple([negative(number) for number in form])
        rows.append(((plus(high, back[0]),) + back[1:], stricts[1]))
    return rows


def box_of(former, latter, delayed, way):
    """The box of the way between two corners."""
    told = [(former[0], None if delayed else latter[0])]
    for low, high, sign in zip(former[1:], latter[1:], way):
        told.append((lesser(low, high), greater(low, high)) if sign == 0 else (None, None))
    return told


def thread_between(former, latter, own, delayed, way, scaled):
    """The thread of the way between two corners.

    own is a pair (start, step): it was flown at the moment start and step times along. delayed is 1
    where it is flown later by off; way says which side is put off by it.
    """
    begin, end, lines = piece_between(former, latter)
    start, step = own
    sides = []
    for (base, slope), sign in zip(lines, way):
        sides.append((plus(base, times(slope, start)), times(slope, step), NOUGHT, whole(sign)))
    limits = rows_between((start, step, NOUGHT, NOUGHT), begin, end, (0, 1))
    time = (start, step, NOUGHT, whole(delayed))
    return (scaled, time, sides, limits, box_of(former, latter, delayed, way))


def threads_along(corners, own, delayed, way, scaled):
    """The threads between each two corners that follow one another, all shaped alike."""
    told = []
    for former, latter in zip(corners[:-1], corners[1:]):
        told.append(thread_between(former, latter, own, delayed, way, scaled))
    return told


def still_thread(corner):
    """The thread of staying at a corner, from its moment on, as long as the amount; along is the moment itself."""
    begin = corner[0]
    time = (NOUGHT, ONCE, NOUGHT, NOUGHT)
    limits = rows_between(time, begin, None, (0,)) + [((begin, BACK, NOUGHT, ONCE), 1)]
    sides = [(number, NOUGHT, NOUGHT, NOUGHT) for number in corner[1:]]
    box = [(begin, None)] + [(number, number) for number in corner[1:]]
    return (0, time, sides, limits, box)


def waiting_threads(former, corner, latter):
    """By "wait": a machine on its way stays at the corner, then all is later by the amount."""
    told = threads_along((corner,) + latter, AS_IT_IS, 1, NO_WAY, 0)
    if former:
        told.append(still_thread(corner))
    return told


def slowing_threads(corner, latter):
    """By "slow": along is how long behind the corner it was flown, and it comes later by so many times that."""
    return threads_along((corner,) + latter, (corner[0], ONCE), 1, NO_WAY, 1)


def round_threads(corner, latter, way):
    """By a way round: what it is put off by grows up to the amount, and shrinks to nothing ahead of the last corner."""
    first = latter[0]
    former, last = latter[-2:]
    leaving = (corner[0], minus(first[0], corner[0]))
    coming = (last[0], minus(former[0], last[0]))
    told = threads_along(latter[:-1], AS_IT_IS, 0, way, 0)
    told.append(thread_between(corner, first, leaving, 0, way, 1))
    told.append(thread_between(former, last, coming, 0, way, 1))
    return told


def threads_of(plan, word, now):
    """The threads of a plan by all amounts of a word; None where shaped tells None for those above 0."""
    corners = tupled(plan)
    if not before(now, corners[-1][0]):
        return threads_along(corners, AS_IT_IS, 0, NO_WAY, 0)
    former, corner, latter = cut_at(corners, now)
    told = threads_along(former + (corner,), AS_IT_IS, 0, NO_WAY, 0)
    if word == "wait":
        return told + waiting_threads(former, corner, latter)
    if word == "slow":
        return told + slowing_threads(corner, latter)
    if len(latter) < 2:
        return None
    return told + round_threads(corner, latter, WAYS[word])


def is_beyond(box, other, reaches):
    """Whether a box is off another one, all of whose leasts are known, in time or at a side, by so much at least."""
    for (low, high), (base, top), (ahead, behind) in zip(box, other, reaches):
        if low is not None and top is not None and not before(minus(low, top), ahead):
            return True
        if high is not None and not before(minus(base, high), behind):
            return True
    return False


def amounts_in(rows, unknowns):
    """A list of the one stretch of the amounts from 0 on, the last of the unknowns, by which all rows hold, or none."""
    planes = [plane_of(form, strict, number) for number, (form, strict) in enumerate(rows)]
    planes.append(plane_of((NOUGHT,) * unknowns + (ONCE,), 0, len(rows)))
    for gone in range(1, unknowns):
        planes = without(planes, unknowns - gone, gone + 1)
    if fault_in(planes, unknowns) is not None:
        return []
    return [range_in(planes, unknowns)]


def amounts_by(thread, rows):
    """A list of the one stretch of the amounts by which there is a moment of a thread for the rows, or of none."""
    scaled, time, sides, limits, box = thread
    rows = limits + rows
    if scaled == 1:
        above = ((ONCE, NOUGHT, NOUGHT, NOUGHT), 1)
        rows = [((form[1], form[0]) + form[2:], strict) for form, strict in rows + [above]]
    return amounts_in(rows, 3)


def meet_rows(thread, piece, sizes, lates):
    """The rows by which a thread meets a piece of another flight."""
    scaled, time, sides, limits, box = thread
    begin, end, lines = piece
    rows = rows_between((NOUGHT, NOUGHT, ONCE, NOUGHT), begin, end, (0, 1))
    rows += rows_between((time[0], time[1], BACK, time[3]), negative(lates[0]), lates[1], (0, 0))
    for side, (base, slope), size in zip(sides, lines, sizes):
        off = (minus(side[0], base), side[1], negative(slope), side[3])
        rows += rows_between(off, negative(size), size, (1, 1))
    return rows


def bad_amounts(one, word, now, other, apart):
    """The amounts with which a flight, shaped by a word, may meet another one; None where it can't be shaped so."""
    threads = threads_of(one[0], word, now)
    if threads is None:
        return None
    sizes = sizes_of(one, other, apart)
    lates = (one[1][2], other[1][2])
    reaches = [(lates[1], lates[0])] + [(size, size) for size in sizes]
    told = []
    for former, latter in zip(other[0][:-1], other[0][1:]):
        piece = piece_between(former, latter)
        box = box_of(former, latter, 0, NO_WAY)
        for thread in threads:
            # Most are seen to be off one another at once: these needn't be reckoned.
            if not is_beyond(thread[4], box, reaches):
                told += amounts_by(thread, meet_rows(thread, piece, sizes, lates))
    return told_set(told)


def stay_rows(thread, walls, late, stretch):
    """The rows by which a thread is between walls at a time of a stretch, being late by so much at most."""
    scaled, time, sides, limits, box = thread
    begin, held, end = stretch
    rows = rows_between(time, minus(begin, late), end, (1 - held, 1))
    for side, (low, high) in zip(sides, walls):
        rows += rows_between(side, low, high, (1, 1))
    return rows


def bad_in_room(one, word, now, room, moments):
    """The amounts with which a flight, shaped by a word, may be in a room at one of some moments; None likewise."""
    threads = threads_of(one[0], word, now)
    if threads is None:
        return None
    late = one[1][2]
    walls = walls_of(room, one[1])
    reaches = [(NOUGHT, late)] + [(NOUGHT, NOUGHT)] * 3
    told = []
    for stretch in told_set(moments):
        box = [(stretch[0], stretch[2])] + walls
        for thread in threads:
            if not is_beyond(thread[4], box, reaches):
                told += amounts_by(thread, stay_rows(thread, walls, late, stretch))
    return told_set(told)


def bad_at_gate(one, word, now, gate, moments, side):
    """The amounts with which the use of a gate by a flight, shaped by a word, has one of some moments."""
    plan, bounds = one
    moved = shaped(plan, (word, ONCE), now)
    if moved is None:
        return None
    at = -1 if side == 1 else 0
    # By each amount the moment is put off by so many times what 1 puts it off by.
    moment = plan[at][0]
    rate = minus(moved[at][0], moment)
    begin, held, end = use_of(gate, moment, bounds[2])
    told = []
    for low, in_it, high in moments:
        rows = [((minus(end, low), rate), 1)]
        if high is not None:
            rows.append(((minus(high, begin), negative(rate)), 1))
        told += amounts_in(rows, 1)
    return told_set(told)


def least_out(sets, most):
    """The least amount from 0 to most that is in none of some sets; None where there is none, or one of them is None.
    """
    if any([stretches is None for stretches in sets]):
        return None
    least = out_from([stretch for stretches in sets for stretch in stretches], NOUGHT)
    if least is None or before(most, least):
        return None
    return least


def least_amount(one, word, now, others, apart, most):
    """The least amount of a word up to most by which a flight may meet none of the others, None where there is none."""
    return least_out([bad_amounts(one, word, now, other, apart) for other in others], most)
