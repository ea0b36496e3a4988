"""What is an integer and what is a sequence."""


def is_whole(thing, low=None, high=None):
    """Tell whether a thing is an integer from low to high; None is no bound on that side."""
    # Python counts True and False as integers, this package does not
    if not isinstance(thing, int) or isinstance(thing, bool):
        return False
    return (low is None or thing >= low) and (high is None or thing <= high)


def is_sequence(thing):
    """Tell whether a thing is a list or a tuple."""
    return isinstance(thing, (list, tuple))
