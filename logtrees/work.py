"""How many sums are computed when a log grows and when its roots are published."""

from logtrees.checks import MOST_ENTRIES, check_number_between, check_number_from, check_size
from logtrees.errors import InvalidSize
from logtrees.shapes import edges


def _made_sums(size):
    """Return how many full nodes of tree(size) have two or more entries."""
    # A peak is joined of its leaves by one sum less than it has leaves.
    return size - root_sums(size) - 1


def append_sums(size, number):
    """Return how many full nodes with two or more entries come to the tree with so many entries more."""
    check_size(size)
    check_number_between(number, 0, MOST_ENTRIES - size)
    return _made_sums(size + number) - _made_sums(size)


def root_sums(size):
    """Return how many edges a size has."""
    return len(edges(size))


def _quotients_sum(first, step, number, divisor):
    """Return the sum of the quotients, rounded down, of so many numbers from the first on in equal steps."""
    total = 0
    while number > 0:
        total += number * (number - 1) // 2 * (step // divisor) + number * (first // divisor)
        step, first = step % divisor, first % divisor
        # What is left counts the points with whole coordinates below a line. Counting them along the other axis
        # swaps step and divisor, as Euclid's algorithm does, so few turns are left.
        number, first = (step * number + first) // divisor, (step * number + first) % divisor
        step, divisor = divisor, step
    return total


def _roots_along(first, step, number):
    """Return the sum of root_sums over so many sizes from the first on in equal steps."""
    total = number * first + number * (number - 1) // 2 * step - number
    # A size has as many peaks as it has digits 1, and that is the size less its quotients by 2, 4, 8 and so on.
    divisor = 2
    while divisor <= first + step * (number - 1):
        total -= _quotients_sum(first, step, number, divisor)
        divisor = divisor * 2
    return total


def _check_stretch(low, high):
    """Raise InvalidSize unless the values are the least and the greatest one of a stretch of sizes."""
    check_size(low)
    check_size(high)
    if low > high:
        raise InvalidSize("a low size is at most the high one")


def roots_total(low, high):
    """Return the sum of root_sums over all sizes from low to high."""
    _check_stretch(low, high)
    return _roots_along(low, 1, high - low + 1)


def roots_by_steps(size, step, number):
    """Return the sum of root_sums over the sizes size + step, size + 2 * step, .., so many."""
    check_size(size)
    check_number_from(step, 1)
    check_number_between(number, 0, (MOST_ENTRIES - size) // step)
    return _roots_along(size + step, step, number)


def cheapest(low, high):
    """Return the tuple of the least root_sums of the sizes from low to high and the least size that has it."""
    _check_stretch(low, high)
    found = (root_sums(low), low)
    room = 2
    # A greater size has a digit 1 where low has a 0, and the digits ahead of it are the same. With zeros behind that
    # digit it is no greater, has no more digits 1, and is the next multiple of a power of two.
    while room <= high:
        size = low + -low % room
        if size <= high:
            found = min(found, (root_sums(size), size))
        room = room * 2
    return found


def costliest(low, high):
    """Return the tuple of the greatest root_sums of the sizes from low to high and the least size that has it."""
    _check_stretch(low, high)
    size = low
    # The next size with more digits 1 has the last digit 0 turned into a 1.
    while (size | (size + 1)) <= high:
        size = size | (size + 1)
    return (root_sums(size), size)
