"""Questions about values that may be of any kind."""


def is_below(value, limit):
    """Return whether any value is an integer from 0 to limit - 1."""
    # For Python a bool is an int, for the document it is no integer.
    if isinstance(value, bool) or not isinstance(value, int):
        return False
    return 0 <= value < limit


def is_ascending(value, limit):
    """Return whether any value is an ascending tuple of integers from 0 to limit - 1."""
    if not isinstance(value, tuple):
        return False
    # First the kinds: values of other kinds may have no order.
    if not all([is_below(item, limit) for item in value]):
        return False
    return all([value[at - 1] < value[at] for at in range(1, len(value))])
