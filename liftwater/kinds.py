"""What kind a thing is, asked of anything."""


def is_number(thing):
    """Whether it's a whole number; Python takes True and False for numbers, this doesn't."""
    return isinstance(thing, int) and not isinstance(thing, bool)


def is_number_from(least, thing):
    """Whether it's a whole number, not below least."""
    return is_number(thing) and thing >= least


def is_number_within(least, most, thing):
    """Whether it's a whole number from least to most."""
    return is_number(thing) and least <= thing <= most


def is_tuple_of(many, thing):
    """Whether it's a tuple of so many things."""
    return isinstance(thing, tuple) and len(thing) == many
