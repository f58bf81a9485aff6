"""How numbers are halved, and which size a style has."""

SIZES_OF_STYLES = (0, 0, 0, 0, 1, 1, 2, 2)


def half(number):
    """Half of a number, rounded up."""
    return (number + 1) // 2


def size_of(style):
    """The size of a style: 0 for display and text, 1 for script, 2 for small."""
    return SIZES_OF_STYLES[style]
