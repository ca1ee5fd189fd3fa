"""Plates, numbers and fractions as texts, and plates in texts."""

from platelights.plates import check_plate, is_plate

# What the parts of each plate are: so many numbers in a row, or a fraction for 0.
_PARTS = {
    "polariser": (4,), "partial": (4, 0, 0), "turner": (4,), "magnet": (2,), "grey": (0,), "dull": (0,), "glass": (),
}
# Python reads no longer numbers in all its settings.
_MOST_FIGURES = 4000


def numbers_text(numbers):
    """The text of whole numbers in a row, with one blank between."""
    return " ".join([str(number) for number in numbers])


def fraction_text(fraction):
    """The text of a fraction."""
    return f"{fraction[0]}/{fraction[1]}"


def whole_in(text):
    """The whole number that Python writes like a text; None for other texts."""
    figures = text[1:] if text.startswith("-") else text
    if len(figures) < 1 or len(figures) > _MOST_FIGURES or not all(["0" <= figure <= "9" for figure in figures]):
        return None
    if figures.startswith("0") and text != "0":
        return None
    return int(text)


def wholes_in(words):
    """The whole numbers that Python writes like some words, None in the place of each other word."""
    return tuple([whole_in(word) for word in words])


def _bare_text(plate):
    """The text of a plate that is not set."""
    words = [plate[0]]
    for part, many in zip(plate[1:], _PARTS[plate[0]]):
        words.append(numbers_text(part) if many > 0 else fraction_text(part))
    return " ".join(words)


def plate_text(plate):
    """The text of a plate."""
    check_plate(plate)
    if plate[0] == "set":
        return f"set {numbers_text(plate[1])} {_bare_text(plate[2])}"
    return _bare_text(plate)


def _bare_in(words):
    """The word and the parts that some words tell, whether or not they make a plate that is not set."""
    if len(words) == 0 or words[0] not in _PARTS:
        return None
    parts, at = [words[0]], 1
    for many in _PARTS[words[0]]:
        if many > 0:
            parts.append(wholes_in(words[at:at + many]))
            at += many
        else:
            # A fraction that is missing is read as an empty text, which is none.
            parts.append(wholes_in("".join(words[at:at + 1]).split("/")))
            at += 1
    return (*parts, *words[at:])


def plate_in(text):
    """The plate that has a text; None for all else, whatever it is."""
    if type(text) is not str:
        return None
    words = text.split(" ")
    plate = ("set", wholes_in(words[1:3]), _bare_in(words[3:])) if words[0] == "set" else _bare_in(words)
    return plate if is_plate(plate) else None
