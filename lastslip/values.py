"""What holds for values of any kind: lists, copies and equality."""


def is_list(value):
    """Whether a value can be passed where a list is documented."""
    return isinstance(value, (list, tuple))


def copied(value):
    """The value with new lists, also within lists and tuples."""
    if isinstance(value, list):
        return [copied(item) for item in value]
    if isinstance(value, tuple):
        return tuple([copied(item) for item in value])
    return value


def equal_values(one, other):
    """Whether two values of any kind are equal."""
    if is_list(one) and is_list(other):
        if isinstance(one, list) != isinstance(other, list) or len(one) != len(other):
            return False
        return all([equal_values(left, right) for left, right in zip(one, other)])
    # For Python True is 1, but booleans are not numbers.
    return isinstance(one, bool) == isinstance(other, bool) and one == other
