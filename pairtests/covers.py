"""What tests of a book miss, which of them are needless, and in which order they meet most soonest."""

from pairtests.books import check_tests
from pairtests.meetings import check_book_and_strength, meetings_of, met_by, possible


def check_all(book, strength, tests):
    check_book_and_strength(book, strength)
    check_tests(book, tests)


def missing(book, strength, tests):
    check_all(book, strength, tests)
    met = met_by(tests, strength)
    return [meeting for meeting in possible(book, strength) if meeting not in met]


def is_cover(book, strength, tests):
    return len(missing(book, strength, tests)) == 0


def times_met(tests, strength):
    times = {}
    for test in tests:
        for meeting in meetings_of(test, strength):
            times[meeting] = times.get(meeting, 0) + 1
    return times


def meet_without(meetings, times):
    # What a test meets is counted too, so it takes a second one to meet it without that test.
    return all([times[meeting] > 1 for meeting in meetings])


def needless(book, strength, tests):
    check_all(book, strength, tests)
    times = times_met(tests, strength)
    return [place for place, test in enumerate(tests) if meet_without(meetings_of(test, strength), times)]


def count_less(meetings, times):
    for meeting in meetings:
        times[meeting] = times[meeting] - 1


def trimmed(book, strength, tests):
    check_all(book, strength, tests)
    times = times_met(tests, strength)
    left = []
    for test in reversed(tests):
        meetings = meetings_of(test, strength)
        if meet_without(meetings, times):
            count_less(meetings, times)
        else:
            left.append(test)
    return list(reversed(left))


def places_by_meeting(tests, strength):
    places = {}
    for place, test in enumerate(tests):
        for meeting in meetings_of(test, strength):
            places.setdefault(meeting, []).append(place)
    return places


def take_out(meetings, places, gains):
    for meeting in meetings:
        # Those that are gone were met by a test ahead of this one, and are counted no more.
        meeting_places = places.pop(meeting, [])
        for place in meeting_places:
            gains[place] = gains[place] - 1


# Tests in order behind others: what those ahead meet is no gain.
def in_order_behind(ahead, tests, strength):
    places = places_by_meeting(tests, strength)
    # How many meetings each test would meet that none ahead of it meets; a test that is taken has none left.
    gains = [len(meetings_of(test, strength)) for test in tests]
    take_out(list(met_by(ahead, strength)), places, gains)
    taken = []
    while max(gains, default=0) > 0:
        place = gains.index(max(gains))
        taken.append(place)
        take_out(meetings_of(tests[place], strength), places, gains)
    rest = [place for place in range(len(tests)) if place not in taken]
    return [tests[place] for place in taken + rest]


def in_order(book, strength, tests):
    check_all(book, strength, tests)
    return in_order_behind([], tests, strength)
