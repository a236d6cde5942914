"""Councils written as texts, and read again."""

from votesway.council import Council
from votesway.errors import BadCrowd, BadNote, BadSize

WORDS = "a council is written like 3: 0+1, 0+2"

# All numbers that a note may hold, each in the one way to write it.
NUMBERS = {"0": 0, "1": 1, "2": 2, "3": 3, "4": 4, "5": 5}


def crowd_shown(crowd):
    if crowd == ():
        return "-"
    return "+".join([str(member) for member in crowd])


def shown(council):
    crowds = [" " + crowd_shown(crowd) for crowd in council.least()]
    return str(council.many()) + ":" + ",".join(crowds)


def number_read(text):
    if text not in NUMBERS:
        raise BadNote(WORDS)
    return NUMBERS[text]


def crowd_read(text):
    if text == "-":
        return ()
    return tuple([number_read(piece) for piece in text.split("+")])


def crowds_read(text):
    if text == "":
        return []
    return [crowd_read(piece[1:]) for piece in text.split(",")]


def council_read(many, crowds):
    try:
        return Council(many, crowds)
    except (BadSize, BadCrowd):
        raise BadNote(WORDS) from None


def read(text):
    parts = text.split(":")
    if len(parts) != 2:
        raise BadNote(WORDS)
    council = council_read(number_read(parts[0]), crowds_read(parts[1]))
    # There is one way to write a council, so whatever the steps above let pass is caught by writing it again.
    if shown(council) != text:
        raise BadNote(WORDS)
    return council
