"""What all files ask of whole numbers."""


def is_whole(value):
    # Python counts truths among its ints, the document doesn't.
    return isinstance(value, int) and not isinstance(value, bool)


def is_between(value, low, high):
    return is_whole(value) and low <= value <= high
