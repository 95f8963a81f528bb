"""What a lane is given of the numbers that all lanes bring to a meeting."""

from widelanes.sums import wrapped


def joined(word, brought, lane):
    # A lane that has ended brings None.
    numbers = [number for number in brought if number is not None]
    if word == "sum":
        return wrapped(sum(numbers))
    if word == "most":
        return max(numbers)
    if word == "least":
        return min(numbers)
    return wrapped(sum([number for number in brought[:lane] if number is not None]))
