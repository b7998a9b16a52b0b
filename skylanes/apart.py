"""Looks at a paper that is to show that two flights can't meet; it knows nothing of how one is found."""

from skylanes.fractions import is_part, is_whole
from skylanes.wedges import STRICT, form_of, wedges_of


def is_list_of(thing, many):
    """Whether any thing is a tuple or a list of so many things."""
    return isinstance(thing, (tuple, list)) and len(thing) == many


def is_weight(thing):
    """Whether any thing is a pair of one of the twelve numbers and a fraction above 0."""
    if not is_list_of(thing, 2):
        return False
    number, weight = thing
    return is_whole(number) and 0 <= number < 12 and is_part(weight) and weight[0] > 0


def are_weights(thing):
    """Whether any thing is made like weights, the numbers rising."""
    if not isinstance(thing, (tuple, list)) or not all([is_weight(pair) for pair in thing]):
        return False
    return all([thing[at - 1][0] < thing[at][0] for at in range(1, len(thing))])


def weighed_sum(forms, weights, at):
    """The sum of place at of forms, each times its weight: times something above 0, as its sign alone counts."""
    total = 0
    shared = 1
    for form, (top, bottom) in zip(forms, weights):
        factor = bottom * form[at][1]
        total = total * factor + top * form[at][0] * shared
        shared *= factor
    return total


def shows_row(wedge, pairs):
    """Whether weights show two pieces to be apart: their sum can't be what it would be at a meet."""
    forms = [form_of(wedge, number) for number, weight in pairs]
    weights = [weight for number, weight in pairs]
    if weighed_sum(forms, weights, 1) != 0 or weighed_sum(forms, weights, 2) != 0:
        return False
    total = weighed_sum(forms, weights, 0)
    return total < 0 or (total == 0 and any([STRICT[number] == 1 for number, weight in pairs]))


def is_row(thing, i, j):
    """Whether any thing is made like the row for piece i of one and j of the other."""
    if not is_list_of(thing, 3) or not is_whole(thing[0]) or not is_whole(thing[1]):
        return False
    return thing[0] == i and thing[1] == j and are_weights(thing[2])


def shows_apart(one, other, apart, paper):
    """Whether any thing is a paper that shows that two flights can't meet."""
    wedges = wedges_of(one, other, apart)
    if not is_list_of(paper, len(wedges)):
        return False
    for (i, j, wedge), row in zip(wedges, paper):
        if not is_row(row, i, j) or not shows_row(wedge, row[2]):
            return False
    return True
