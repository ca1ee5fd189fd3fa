"""The checker: whether a paper shows what a claim says."""

from platelights.claims import is_claim, is_so, needs_no_paper
from platelights.papers import shows_brighter, shows_fading, shows_fringes, shows_last_level, shows_lost, shows_made
from platelights.papers import shows_no_turn, shows_not_brighter, shows_not_made, shows_sharper, shows_unlike
from platelights.weighings import shows_mixture, shows_no_light, shows_no_mixture, shows_no_patchwork, shows_open
from platelights.weighings import shows_patchwork, shows_settled


def _shows_of_plates(claim, paper):
    """Whether a paper shows a claim about plates, tables or beams."""
    word = claim[0]
    if word == "unlike":
        return shows_unlike(claim, paper)
    if word == "loses":
        return shows_lost(claim, paper)
    if word == "made":
        return shows_made(claim, paper)
    if word == "not made":
        return shows_not_made(claim, paper)
    if word == "fringes":
        return shows_fringes(claim, paper)
    if word == "sharper":
        return shows_sharper(claim, paper)
    if word == "fading":
        return shows_fading(claim, paper)
    return word == "last level" and shows_last_level(claim, paper)


def _shows_of_lights(claim, paper):
    """Whether a paper shows a claim about unknown lights, mixtures, turns or courses."""
    word = claim[0]
    if word == "no light":
        return shows_no_light(claim, paper)
    if word == "settled":
        return shows_settled(claim, paper)
    if word == "open":
        return shows_open(claim, paper)
    if word == "mixture":
        return shows_mixture(claim, paper)
    if word == "no mixture":
        return shows_no_mixture(claim, paper)
    if word == "patchwork":
        return shows_patchwork(claim, paper)
    if word == "no patchwork":
        return shows_no_patchwork(claim, paper)
    if word == "no turn":
        return shows_no_turn(claim, paper)
    if word == "brighter":
        return shows_brighter(claim, paper)
    return word == "not brighter" and shows_not_brighter(claim, paper)


def accepts(claim, paper):
    """Whether a value is a claim for the checker and another value is a paper that shows it."""
    if not is_claim(claim):
        return False
    if needs_no_paper(claim):
        return type(paper) is tuple and len(paper) == 0 and is_so(claim)
    return _shows_of_plates(claim, paper) or _shows_of_lights(claim, paper)
