"""The lines that a desk understands, by their forms."""

from mustmay.errors import NoLine
from mustmay.plans import is_name
from mustmay.texts import FIGURES

MOST_FIGURES = 4
# A word in small letters stands in the line as it is. The others are: NEW, a
# name to be kept; TOLD, a name by which a plan is to stand that was told; NAME,
# one that is to be there; TEXT, the rest of the line.
FORMS = (
    ("plan", "NEW", "TEXT"),
    ("change", "TOLD", "TEXT"),
    ("wish", "NEW", "TEXT"),
    ("door", "TOLD", "ROOM", "ACTION", "must", "ROOM"),
    ("door", "TOLD", "ROOM", "ACTION", "may", "ROOM"),
    ("door", "TOLD", "ROOM", "ACTION", "shut"),
    ("meet", "NEW", "NAME", "NAME"),
    ("beside", "NEW", "NAME", "NAME"),
    ("over", "NEW", "NAME", "NAME"),
    ("drop", "NAME"),
    ("names",),
    ("show", "NAME"),
    ("within", "NAME", "NAME"),
    ("alike", "NAME", "NAME"),
    ("hall", "NAME", "NAME"),
    ("claim", "within", "NAME", "NAME"),
    ("claim", "alike", "NAME", "NAME"),
    ("claim", "some", "NAME"),
    ("claims",),
    ("unclaim", "NUMBER"),
)


def is_sign(sign):
    return " " <= sign <= "~"


def is_number(word):
    if not 1 <= len(word) <= MOST_FIGURES or not all([sign in FIGURES for sign in word]):
        return False
    return word == "0" or word[0] != "0"


def is_such(word, kind, actions):
    if kind in ("NEW", "TOLD", "NAME"):
        return is_name(word)
    if kind == "ACTION":
        return word in actions
    if kind == "ROOM":
        return word.startswith("r") and is_number(word[1:])
    if kind == "NUMBER":
        return is_number(word)
    return kind == "TEXT" or word == kind


def has_form(words, form, actions):
    if len(words) != len(form):
        return False
    return all([is_such(word, kind, actions) for word, kind in zip(words, form)])


def split_line(line):
    for head in ("plan ", "change ", "wish "):
        if line.startswith(head):
            return line.split(" ", 2)
    return line.split(" ")


# This form alone has no length of its own.
def after_form(many):
    return ("after", "NAME", "ACTION") + ("ACTION",) * (many - 3)


def read_line(line, actions):
    if all([is_sign(sign) for sign in line]):
        words = split_line(line)
        for form in FORMS + (after_form(len(words)),):
            if has_form(words, form, actions):
                return (form, words)
    raise NoLine("no line that a desk understands")
