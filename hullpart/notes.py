"""Points written as a text, and read from it."""

from hullpart.errors import NoNote, NoPoint
from hullpart.places import check_points

DIGITS = "0123456789"


def shown(points):
    check_points(points)
    return " ".join([shown_point(point) for point in points])


def read(text):
    # Splitting the empty text would make one empty word of it.
    words = [] if text == "" else text.split(" ")
    points = [read_point(word) for word in words]
    try:
        check_points(points)
    except NoPoint as refusal:
        raise NoNote("more points, or a farther one, than there may be") from refusal
    return points


def shown_point(point):
    x = point[0]
    y = point[1]
    return f"{x},{y}"


def read_point(word):
    pair = word.split(",")
    if len(pair) != 2 or not is_place(pair[0]) or not is_place(pair[1]):
        raise NoNote(f"no point is written {word!r}")
    return (int(pair[0]), int(pair[1]))


def is_place(word):
    digits = word[1:] if word.startswith("-") else word
    if digits == "" or any([sign not in DIGITS for sign in digits]):
        return False
    # A number that has noughts ahead, or is -0, is written otherwise.
    return str(int(word)) == word
