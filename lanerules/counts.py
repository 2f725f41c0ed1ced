"""Counts and words: the count of a car is the number of passings before it comes."""


def counts_in(word):
    """The tuple of the counts of a history."""
    found = []
    passed = 0
    for letter in word:
        if letter == "a":
            found.append(passed)
        else:
            passed += 1
    return tuple(found)


def word_with(counts):
    """The history with these counts."""
    parts = []
    passed = 0
    for count in counts:
        parts.append("p" * (count - passed) + "a")
        passed = count
    parts.append("p" * (len(counts) - passed))
    return "".join(parts)


def places_in(order):
    """The tuple of the places at which the cars stand in the order, by their numbers."""
    places = {car: place for place, car in enumerate(order)}
    return tuple([places[car] for car in range(len(order))])
