"""Papers that so many tests are not a cover: told for small books, looked at for books of any size."""

from pairtests.books import all_tests, is_meeting, is_row, is_tuple, is_whole
from pairtests.errors import BadNumber
from pairtests.fewest import (
    apart, bits_of, clear_of, fewest, masks_by_meeting, meetings_by_mask, narrowest, size_of, small_tests, tests_by_bit,
)
from pairtests.meetings import check_book_and_strength

MOST_MANY = 30


def check_many(many):
    if not is_whole(many, 0, MOST_MANY):
        raise BadNumber("no paper is of so many tests")


# A tree for masks that no test taken so far hits. Its first meeting is that of the first mask.
def tree_of(masks, meetings, by_bit, many):
    rows = []
    if many > 0:
        for bit in bits_of(masks[0]):
            rows.append((by_bit[bit], tree_of(clear_of(masks, bit), meetings, by_bit, many - 1)))
    return (meetings[masks[0]], tuple(rows))


def paper(book, strength, many):
    tests = small_tests(book, strength)
    check_many(many)
    if len(fewest(book, strength)) <= many:
        return None
    found = apart(book, strength)
    if len(found) > many:
        return ("apart", found)
    meetings = meetings_by_mask(tests, strength)
    # As so many tests are not a cover, any meeting they don't meet will do: one that few tests meet has fewest rows.
    masks = sorted(narrowest(list(meetings)), key=size_of)
    return ("tree", tree_of(masks, meetings, tests_by_bit(tests), many))


class Ground:
    def __init__(self, book, strength):
        tests = all_tests(book)
        self.levels = book[0]
        self.by_bit = tests_by_bit(tests)
        self.masks = masks_by_meeting(tests, strength)

    # The tests that meet a possible meeting of the strength; none for all else.
    def mask_of(self, thing):
        # Looked up by itself, True or 1.0 would be found in the place of 1.
        if not is_meeting(self.levels, thing):
            return 0
        return self.masks.get(thing, 0)

    def is_this_test(self, bit, thing):
        return is_row(self.levels, thing) and thing == self.by_bit[bit]


def are_apart(ground, many, thing):
    if not isinstance(thing, list) or len(thing) <= many:
        return False
    met = 0
    for meeting in thing:
        mask = ground.mask_of(meeting)
        if mask == 0 or (mask & met) > 0:
            return False
        met = met + mask
    return True


def are_rows(ground, many, taken, bits, thing):
    if not is_tuple(thing, len(bits), len(bits)):
        return False
    for bit, row in zip(bits, thing):
        if not is_tuple(row, 2, 2) or not ground.is_this_test(bit, row[0]):
            return False
        if not is_tree(ground, many - 1, taken + bit, row[1]):
            return False
    return True


def is_tree(ground, many, taken, thing):
    if not is_tuple(thing, 2, 2):
        return False
    mask = ground.mask_of(thing[0])
    if mask == 0 or (mask & taken) > 0:
        return False
    if many == 0:
        return is_tuple(thing[1], 0, 0)
    return are_rows(ground, many, taken, bits_of(mask), thing[1])


def is_paper(book, strength, many, thing):
    check_book_and_strength(book, strength)
    check_many(many)
    if not is_tuple(thing, 2, 2) or not isinstance(thing[0], str):
        return False
    ground = Ground(book, strength)
    if thing[0] == "apart":
        return are_apart(ground, many, thing[1])
    return thing[0] == "tree" and is_tree(ground, many, 0, thing[1])
