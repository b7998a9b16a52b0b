"""Rooms of the air: when flights may be in them, and when too many."""

from skylanes.fractions import minus, plus
from skylanes.nearness import size_of
from skylanes.planes import fault_in, plane_of, range_in
from skylanes.stretches import later_by, many_of, most_in
from skylanes.wedges import BACK, ONCE, negative, pieces_of


def walls_of(room, bounds):
    """For each side the pair of a room's walls, put off by as much as a machine may be off its spot."""
    told = []
    for side in range(3):
        off = size_of(bounds, side)
        told.append((minus(room[1][side], off), plus(room[2][side], off)))
    return told


def planes_in(piece, walls):
    """What is to hold of the own moment at which a piece is between the walls."""
    begin, end, lines = piece
    planes = [plane_of((negative(begin), ONCE), 0, 0), plane_of((end, BACK), 1, 1)]
    for (base, slope), (low, high) in zip(lines, walls):
        planes.append(plane_of((minus(base, low), slope), 1, len(planes)))
        planes.append(plane_of((minus(high, base), negative(slope)), 1, len(planes)))
    return planes


def own_stays(plan, walls):
    """The stretches of the own moments at which a plan is between the walls, one at most a piece."""
    told = []
    for piece in pieces_of(plan):
        planes = planes_in(piece, walls)
        if fault_in(planes, 1) is None:
            told.append(range_in(planes, 1))
    return told


def stays(flight, room):
    """The set of the times at which a flight may be in a room."""
    plan, bounds = flight
    return later_by(own_stays(plan, walls_of(room, bounds)), bounds[2])


def all_stays(flights, room):
    """The stays of each of a list of flights."""
    return [stays(flight, room) for flight in flights]


def full(flights, room):
    """The times at which as many flights as the room may have, or more, may be in it."""
    return many_of(all_stays(flights, room), room[3])


def over_full(flights, room):
    """The times at which more flights than the room may have may be in it."""
    return many_of(all_stays(flights, room), room[3] + 1)


def fullest(flights, room):
    """How many flights at most may be in the room at a time, and the first stretch at which so many may."""
    return most_in(all_stays(flights, room))
