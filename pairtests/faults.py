"""Which meetings may be at fault by the results of tests, and which test to look at next."""

from pairtests.books import all_tests
from pairtests.covers import check_all, places_by_meeting
from pairtests.errors import BadResults
from pairtests.meetings import possible


def are_results(tests, thing):
    if not isinstance(thing, list) or len(thing) != len(tests):
        return False
    return all([isinstance(result, bool) for result in thing])


def suspects(book, strength, tests, results):
    check_all(book, strength, tests)
    if not are_results(tests, results):
        raise BadResults("these are no results of the tests")
    places = places_by_meeting(tests, strength)
    faulty = [place for place, result in enumerate(results) if not result]
    return [meeting for meeting in possible(book, strength) if places.get(meeting, []) == faulty]


# The place of the next test among all tests, or None; places has those of the tests that meet each meeting.
def next_place(meetings, places):
    many = {}
    for meeting in meetings:
        for place in places[meeting]:
            many[place] = many.get(place, 0) + 1
    if len(many) == 0:
        return None
    # Of several that are least, min takes the first.
    found = min(sorted(many), key=lambda place: max(many[place], len(meetings) - many[place]))
    return found if many[found] < len(meetings) else None


def next_test(book, strength, tests, results):
    meetings = suspects(book, strength, tests, results)
    every = all_tests(book)
    place = next_place(meetings, places_by_meeting(every, strength))
    return None if place is None else every[place]


# A list of possible meetings for each of the results that the tests can have. As the meetings come rising, each list
# rises, and so do the lists, which come in by their first ones.
def lists_by_results(book, strength, tests):
    places = places_by_meeting(tests, strength)
    lists = {}
    for meeting in possible(book, strength):
        lists.setdefault(tuple(places.get(meeting, [])), []).append(meeting)
    return list(lists.values())


def blurred(book, strength, tests):
    check_all(book, strength, tests)
    return [meetings for meetings in lists_by_results(book, strength, tests) if len(meetings) > 1]


# What is left of lists of suspects, where there is a next test, once it has been looked at.
def parted(lists, places):
    parts = []
    for meetings in lists:
        place = next_place(meetings, places)
        if place is not None:
            parts.append([meeting for meeting in meetings if place in places[meeting]])
            parts.append([meeting for meeting in meetings if place not in places[meeting]])
    return parts


def most_looked(book, strength, tests):
    check_all(book, strength, tests)
    places = places_by_meeting(all_tests(book), strength)
    many = 0
    lists = parted(lists_by_results(book, strength, tests), places)
    while len(lists) > 0:
        many = many + 1
        lists = parted(lists, places)
    return many
