"""Gates: each use takes them for a while, and only so many go at a time."""

from skylanes.fractions import before, plus
from skylanes.stretches import counted


def use_of(gate, m, late):
    """The stretch that a use of the gate at a moment takes, by a flight that may be so late."""
    return (m, 1, plus(plus(m, late), gate[1]))


def busy(gate, uses):
    """The times at which as many uses as the gate takes, or more, are; alike ones count each."""
    return counted(uses, gate[2])


def over_used(gate, uses):
    """The times at which more uses than the gate takes are."""
    return counted(uses, gate[2] + 1)


def next_slot(gate, uses, late, m):
    """The least moment from m on whose use has no busy time."""
    slot = m
    for begin, held, end in busy(gate, uses):
        # They rise, so a slot at the end of one has none of those ahead of it.
        if before(slot, end) and before(begin, use_of(gate, slot, late)[2]):
            slot = end
    return slot
