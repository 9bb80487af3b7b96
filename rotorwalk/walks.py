"""Walks: groups of walkers that settle, and the round of one walker."""

from rotorwalk.checks import are_numbers, check_hands
from rotorwalk.errors import BadCount, NotEven
from rotorwalk.yards import MOST_WALKERS, Yard


def settled(web, hands, walkers):
    """How often each place is left, the hands and the walkers when these settled.

    BadHands, BadCount, Endless.
    """
    check_hands(web, hands)
    if not are_numbers(walkers, [MOST_WALKERS] * web.many()):
        raise BadCount(f"walkers are a list: for each place a number from 0 to {MOST_WALKERS}")
    yard = Yard(web, hands)
    for place, many in enumerate(walkers):
        if many > 0:
            yard.put(place, many)
    yard.settle()
    return yard.left(), yard.hands(), yard.walkers()


def round_of(web, hands, place):
    """How many steps are ahead of the round of one walker, and the round's steps.

    NotEven, BadHands, BadPlace.
    """
    if not web.is_even():
        raise NotEven("only on an even web one walker comes into a round")
    check_hands(web, hands)
    yard = Yard(web, hands)
    yard.put(place)
    at = place
    steps = []
    met = {}
    # The place and the hands tell all that follows, so the round begins at the
    # first ones that come again.
    state = (at, tuple(hands))
    while state not in met:
        met[state] = len(steps)
        steps.append((at, yard.hands()[at]))
        at = yard.step(at)
        state = (at, tuple(yard.hands()))
    ahead = met[state]
    return ahead, steps[ahead:]
