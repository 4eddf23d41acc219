"""The plainest kinds of values: integers, numbers, sequences, pairs and triples."""


def is_integer(value):
    return isinstance(value, int) and not isinstance(value, bool)


def is_number(value):
    return is_integer(value) and value >= 0


def is_sequence(value):
    return isinstance(value, (list, tuple))


def is_tuple_of(value, count):
    return isinstance(value, tuple) and len(value) == count


def is_word(value, word):
    """Whether any value is this string; a value of another kind is not even compared."""
    return isinstance(value, str) and value == word


def is_service(services, value):
    """Whether any value is one of some services."""
    return isinstance(value, str) and value in services


def without_repeats(states):
    """The states of a plan or climb as a list, without each one that is equal to the one before."""
    return [state for at, state in enumerate(states) if at == 0 or state != states[at - 1]]
