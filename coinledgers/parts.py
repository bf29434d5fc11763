"""Amounts parted in whole numbers."""


def part(amount, over, under):
    if under == 0:
        return 0
    product = amount * over
    # Halves go away from 0, so the size is rounded without its sign.
    size = (2 * abs(product) + abs(under)) // (2 * abs(under))
    return size if (product < 0) == (under < 0) else -size


def piece(amount, start, end, whole):
    return part(amount, end, whole) - part(amount, start, whole)


def are_against(first, second):
    return first * second < 0
