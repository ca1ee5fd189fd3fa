"""Claims for the checker: their words and parts, and whether those are so that need no paper."""

from platelights.backs import returns, ways
from platelights.fringes import never_fringes
from platelights.keepers import keeps_lights, made_rank
from platelights.leads import is_fitting
from platelights.parts import are_parts
from platelights.plates import are_alike, through
from platelights.readings import keeps_all
from platelights.rounds import comes_back
from platelights.turns import turn_order
from platelights.wholes import has_word

_DARK = (0, 0, 0, 0, 1)
_PARTS = {
    "alike": ("stack", "stack"), "unlike": ("stack", "stack"),
    "keeps": ("table",), "loses": ("table",), "made": ("table",), "not made": ("table",), "rank": ("table", "whole"),
    "fringes": ("matrix", "matrix"), "no fringes": ("matrix", "matrix"), "sharper": ("matrix", "matrix", "share"),
    "fits": ("readings", "light"), "no light": ("readings",),
    "settled": ("readings", "look", "fraction"), "open": ("readings", "look"),
    "mixture": ("lights", "light"), "no mixture": ("lights", "light"),
    "patchwork": ("tables", "table"), "no patchwork": ("tables", "table"),
    "leads": ("pairs", "turn"), "no turn": ("pairs",), "order": ("turn", "whole"), "never round": ("turn",),
    "brighter": ("course", "course"), "not brighter": ("course", "course"),
    "one way": ("stack",), "nothing back": ("stack",), "unchanged": ("stack", "light"), "fading": ("stack",),
    "last level": ("stack", "light", "fraction"), "comes back": ("stack", "light", "whole"),
    "never back": ("stack", "light"),
}
# What is shown by the claim alone, so that its paper is empty.
_PLAIN = (
    "alike", "keeps", "rank", "no fringes", "fits", "leads", "order", "never round", "one way", "nothing back",
    "unchanged", "comes back", "never back",
)


def is_claim(value):
    """Whether a value is a claim for the checker."""
    return has_word(value) and value[0] in _PARTS and are_parts(value[1:], _PARTS[value[0]])


def needs_no_paper(claim):
    """Whether the paper of a claim is empty."""
    return claim[0] in _PLAIN


def _stack_is_so(claim):
    """Whether a claim about one stack is so."""
    word, stack = claim[:2]
    if word == "one way":
        return ways(stack) == "forth"
    if word == "nothing back":
        return ways(stack) in ("forth", "both") and not returns(stack)
    light = claim[2]
    if light == _DARK:
        return False
    if word == "unchanged":
        return through(stack, light) == light
    return comes_back(stack, light) == (claim[3] if word == "comes back" else None)


def is_so(claim):
    """Whether a claim that needs no paper is so."""
    word, first, last = claim[0], claim[1], claim[-1]
    if word == "alike":
        return are_alike(first, last)
    if word == "keeps":
        return keeps_lights(first)
    if word == "rank":
        return made_rank(first) == last
    if word == "no fringes":
        return never_fringes(first, last)
    if word == "fits":
        return keeps_all(last, first)
    if word == "leads":
        return is_fitting(first, last)
    if word == "order":
        return turn_order(first) == last
    if word == "never round":
        return turn_order(first) is None
    return _stack_is_so(claim)
