"""What is an integer, what is a sequence, and what is ascending."""


def is_whole(thing, low=None, high=None):
    """Tell whether a thing is an integer from low to high; None is no bound on that side."""
    # Python counts True and False as integers, this package does not
    if not isinstance(thing, int) or isinstance(thing, bool):
        return False
    return (low is None or thing >= low) and (high is None or thing <= high)


def is_sequence(thing):
    """Tell whether a thing is a list or a tuple."""
    return isinstance(thing, (list, tuple))


def is_ascending(row):
    """Tell whether a row of things that can be compared is ascending, none of them twice."""
    return all([item < following for item, following in zip(row, row[1:])])
