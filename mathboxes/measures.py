"""How numbers are halved and repeated, and which size a style has."""

SIZES_OF_STYLES = (0, 0, 0, 0, 1, 1, 2, 2)


def half(number):
    """Half of a number, rounded up."""
    return (number + 1) // 2


def size_of(style):
    """The size of a style: 0 for display and text, 1 for script, 2 for small."""
    return SIZES_OF_STYLES[style]


def repeats_for(each, bound, most):
    """The least number of repeats with which all together reach a bound, but not more than the most."""
    if bound <= 0 or each == 0:
        return 0
    return min(most, (bound + each - 1) // each)
