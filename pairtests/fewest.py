"""The fewest tests of small books, and possible meetings that are apart.

A mask is a whole number that stands for some of a small book's tests: its bits 1, 2, 4 and so on for the first, the
second, the third of all tests. Each possible meeting has the mask of those that meet it. Tests are a cover if they
hit all these masks, that is, have a bit of each; meetings are apart if no two of their masks have a bit in common.
"""

from pairtests.books import all_tests
from pairtests.errors import TooBig
from pairtests.meetings import check_book_and_strength, meetings_of

MOST_TESTS = 24


def small_tests(book, strength):
    check_book_and_strength(book, strength)
    tests = all_tests(book)
    if len(tests) > MOST_TESTS:
        raise TooBig("the book has too many tests")
    return tests


def tests_by_bit(tests):
    found = {}
    bit = 1
    for test in tests:
        found[bit] = test
        bit = bit + bit
    return found


def masks_by_meeting(tests, strength):
    masks = {}
    for bit, test in tests_by_bit(tests).items():
        for meeting in meetings_of(test, strength):
            masks[meeting] = masks.get(meeting, 0) + bit
    return masks


# One meeting for each mask: which of several that the same tests meet makes no odds.
def meetings_by_mask(tests, strength):
    meetings = {}
    for meeting, mask in masks_by_meeting(tests, strength).items():
        meetings[mask] = meeting
    return meetings


def bits_of(mask):
    bits = []
    rest = mask
    while rest > 0:
        without_lowest = rest & (rest - 1)
        bits.append(rest - without_lowest)
        rest = without_lowest
    return bits


def size_of(mask):
    return len(bits_of(mask))


def all_bits(masks):
    whole = 0
    for mask in masks:
        whole = whole | mask
    return whole


def clear_of(masks, mask):
    return [other for other in masks if (other & mask) == 0]


def narrowest(masks):
    # What hits a mask hits every mask that it lies in, and it may stand for such a one among masks that are apart:
    # so the others need not be looked at. A mask that lies in another is the lesser number and comes ahead of it.
    found = []
    for mask in sorted(set(masks)):
        if not any([(mask & other) == other for other in found]):
            found.append(mask)
    return found


def some_apart(masks):
    # Small masks leave most room for others.
    found = []
    for mask in sorted(masks, key=size_of):
        if (mask & all_bits(found)) == 0:
            found.append(mask)
    return found


# A mask of at most so many bits that hits all these masks, or None if there is none.
def hit_by(masks, many):
    if len(masks) == 0:
        return 0
    # An empty mask can't be hit; masks that are apart take a bit each.
    if 0 in masks or len(some_apart(masks)) > many:
        return None
    left = masks
    for bit in bits_of(min(masks, key=size_of)):
        found = hit_by(clear_of(left, bit), many - 1)
        if found is not None:
            return found + bit
        # All that has this bit was tried in vain, so the bits that are tried next do without it.
        left = narrowest([mask - (mask & bit) for mask in left])
    return None


def fewest(book, strength):
    tests = small_tests(book, strength)
    masks = narrowest(list(meetings_by_mask(tests, strength)))
    many = len(some_apart(masks))
    found = hit_by(masks, many)
    while found is None:
        many = many + 1
        found = hit_by(masks, many)
    by_bit = tests_by_bit(tests)
    return [by_bit[bit] for bit in bits_of(found)]


# So many of the smallest masks would be apart if nothing but their sizes counted: there are no more than these.
def most_that_fit(masks):
    room = size_of(all_bits(masks))
    many = 0
    for size in sorted([size_of(mask) for mask in masks]):
        room = room - size
        if room < 0:
            return many
        many = many + 1
    return many


def rarest_bit(masks):
    return min(bits_of(all_bits(masks)), key=lambda bit: len([mask for mask in masks if (mask & bit) == bit]))


# So many of these masks that are apart, or None if there are not so many.
def apart_among(masks, many):
    if many == 0:
        return []
    if most_that_fit(masks) < many:
        return None
    bit = rarest_bit(masks)
    # Masks that are apart have this bit in just one of them or in none.
    for mask in masks:
        if (mask & bit) == bit:
            found = apart_among(clear_of(masks, mask), many - 1)
            if found is not None:
                return found + [mask]
    return apart_among(clear_of(masks, bit), many)


def most_apart(masks):
    most = some_apart(masks)
    more = apart_among(masks, len(most) + 1)
    while more is not None:
        most = more
        more = apart_among(masks, len(most) + 1)
    return most


def apart(book, strength):
    meetings = meetings_by_mask(small_tests(book, strength), strength)
    return sorted([meetings[mask] for mask in most_apart(narrowest(list(meetings)))])
