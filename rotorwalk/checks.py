"""What is a number, a list of numbers, and hands of a web."""

from rotorwalk.errors import BadHands


def is_number(thing, least, most):
    """True if thing is a number from least to most, else False."""
    # The exact class is asked for, here and in each other check: a class of
    # the caller's own could answer as it likes, or fail, when it is asked.
    return type(thing) is int and least <= thing <= most


def are_numbers(thing, mosts):
    """True if thing is a list of numbers, for each of mosts one from 0 to it."""
    if type(thing) is not list or len(thing) != len(mosts):
        return False
    return all([is_number(item, 0, most) for item, most in zip(thing, mosts)])


def check_hands(web, hands):
    """Refuse what are no hands of web."""
    # A hand is 0 at a rest, as it is where there is one way.
    mosts = [max(len(row) - 1, 0) for row in web.rows()]
    if not are_numbers(hands, mosts):
        raise BadHands("hands are a list: for each place the number of one of its ways")
