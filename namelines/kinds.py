"""What kind of thing a thing is, told more narrowly than Python tells it."""


def is_number(thing):
    """Whether it is a whole number. Python counts True and False among them, the document doesn't."""
    return isinstance(thing, int) and not isinstance(thing, bool)


def is_number_below(thing, bound):
    return is_number(thing) and 0 <= thing < bound


def is_tuple_of(thing, many):
    """Whether it is a tuple with so many parts."""
    return isinstance(thing, tuple) and len(thing) == many


def is_rising(things):
    """Whether each is above the one ahead of it, so that nothing is there twice."""
    return all([low < high for low, high in zip(things, things[1:])])


def has_truths(thing):
    """Whether True or False is in it, however deep."""
    if isinstance(thing, (list, tuple)):
        return any([has_truths(part) for part in thing])
    return isinstance(thing, bool)


def is_same(thing, told):
    """Whether a thing is what was told, made of lists, tuples, numbers and None."""
    # Python's == keeps lists and tuples apart, but takes True for 1 and False for 0. It goes first,
    # so that only a thing of the told one's own shape is searched.
    return thing == told and not has_truths(thing)
