"""The desk's words: how numbers, names, plans and stretches are read and written."""

from skylanes.errors import BadPlan
from skylanes.fractions import is_part
from skylanes.plans import look_plan
from skylanes.shapes import WAYS

FIGURES = "0123456789"
LETTERS = "abcdefghijklmnopqrstuvwxyz"


def are_all_in(word, signs):
    """Whether all signs of a word are among some."""
    return all([sign in signs for sign in word])


def is_count(word):
    """Whether a word is figures alone, no nought ahead but in 0 itself."""
    return word == "0" or (word != "" and word[0] != "0" and are_all_in(word, FIGURES))


def whole_of(figures):
    """The whole number of figures; by sixty at a time, as Python reads no more than some thousands at once."""
    told = 0
    padded = "0" * (-len(figures) % 60) + figures
    for at in range(0, len(padded), 60):
        told = told * 10 ** 60 + int(padded[at:at + 60])
    return told


def figures_of(n):
    """The figures of a whole number from 0 on; likewise."""
    parts = []
    while n >= 10 ** 60:
        n, rest = divmod(n, 10 ** 60)
        parts.append(str(rest).zfill(60))
    parts.append(str(n))
    return "".join(parts[::-1])


def number_of(word):
    """The fraction of a NUMBER, None of another word."""
    top, slash, bottom = word.partition("/")
    figures = top[1:] if top.startswith("-") else top
    if not is_count(figures) or top == "-0":
        return None
    sign = 1 if figures == top else -1
    if slash == "":
        return (sign * whole_of(figures), 1)
    if not is_count(bottom) or bottom in ("0", "1"):
        return None
    told = (sign * whole_of(figures), whole_of(bottom))
    return told if is_part(told) else None


def number_from(word):
    """The fraction of a NUMBER from 0 on, None of another word."""
    told = number_of(word)
    return None if told is None or told[0] < 0 else told


def number_above(word):
    """The fraction of a NUMBER above 0, None of another word."""
    told = number_of(word)
    return None if told is None or told[0] <= 0 else told


def count_of(word):
    """The whole number of a NUMBER that is one from 1 on, None of another word."""
    return whole_of(word) if is_count(word) and word != "0" else None


def rank_of(word):
    """The whole number of a RANK, None of another word."""
    return whole_of(word) if is_count(word) and len(word) == 1 else None


def name_of(word):
    """The NAME itself, None of another word."""
    return word if 1 <= len(word) <= 8 and are_all_in(word, LETTERS) else None


def gate_of(word):
    """The GATE itself, a NAME or a dash, None of another word."""
    return word if word == "-" else name_of(word)


def shape_word(word):
    """The WORD of a shape itself, None of another word."""
    return word if word in ("wait", "slow") or word in WAYS else None


# How a word is read, by its kind.
READERS = {
    "NUMBER": number_of,
    "FROM": number_from,
    "ABOVE": number_above,
    "COUNT": count_of,
    "RANK": rank_of,
    "NAME": name_of,
    "GATE": gate_of,
    "WORD": shape_word,
}


def values_of(kinds, words):
    """The list of what words say, each one read as its kind; None where they aren't so written."""
    if len(kinds) != len(words):
        return None
    told = []
    for kind, word in zip(kinds, words):
        reader = READERS[kind]
        value = reader(word)
        if value is None:
            return None
        told.append(value)
    return told


def plan_of(words):
    """The plan of the words of a PLAN, None of others."""
    corners = []
    for at in range(0, len(words), 5):
        if at > 0 and words[at - 1] != "/":
            return None
        corners.append([number_of(word) for word in words[at:at + 4]])
    if len(words) % 5 != 4:
        return None
    try:
        return look_plan(corners)
    except BadPlan:
        return None


def written(number):
    """A fraction as a NUMBER."""
    top, bottom = number
    sign = "-" if top < 0 else ""
    below = "" if bottom == 1 else f"/{figures_of(bottom)}"
    return f"{sign}{figures_of(abs(top))}{below}"


def written_plan(plan):
    """A plan as a PLAN."""
    return " / ".join([" ".join([written(number) for number in corner]) for corner in plan])


def written_stretch(stretch):
    """A stretch, in a bracket that says whether its begin is held."""
    begin, held, end = stretch
    opening = "[" if held == 1 else "("
    last = "-" if end is None else written(end)
    return f"{opening}{written(begin)} {last})"


def written_list(texts):
    """Texts with a blank between, a dash of none."""
    return " ".join(texts) if texts else "-"


def written_set(stretches):
    """A set of moments."""
    return written_list([written_stretch(stretch) for stretch in stretches])
