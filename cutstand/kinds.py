"""Of what kind a thing is: what all modules ask of things that anybody may hand in."""

STATES = 100
LONGEST_WORD = 8


def is_whole(thing):
    """Whether it is a whole number."""
    # Python counts truths among its ints; here True is no 1.
    return isinstance(thing, int) and not isinstance(thing, bool)


def is_below(thing, bound):
    """Whether it is a whole number from 0 on and less than the bound."""
    return is_whole(thing) and 0 <= thing < bound


def is_state(thing):
    """Whether it is a state."""
    return is_below(thing, STATES)


def is_sign(thing):
    """Whether it is a text of one small letter."""
    return isinstance(thing, str) and len(thing) == 1 and "a" <= thing <= "z"


def is_word(thing):
    """Whether it is a text of one to eight small letters."""
    if not isinstance(thing, str) or not 1 <= len(thing) <= LONGEST_WORD:
        return False
    return all([is_sign(letter) for letter in thing])


def is_tuple_of(thing, many):
    """Whether it is a tuple of just so many things."""
    return isinstance(thing, tuple) and len(thing) == many


def is_tuple_to(thing, most):
    """Whether it is a tuple of at most so many things."""
    return isinstance(thing, tuple) and len(thing) <= most


def is_numbers(thing, many):
    """Whether it is a tuple of just so many whole numbers."""
    return is_tuple_of(thing, many) and all([is_whole(number) for number in thing])


def is_rising(numbers):
    """Whether each number is greater than the one ahead."""
    return all([ahead < behind for ahead, behind in zip(numbers, numbers[1:])])


def is_rising_below(thing, bound):
    """Whether it is a rising tuple, perhaps empty, of whole numbers from 0 on that are less than the bound."""
    return isinstance(thing, tuple) and all([is_below(number, bound) for number in thing]) and is_rising(thing)
