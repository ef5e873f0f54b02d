"""What is done with tuples everywhere."""


def exchanged(parts, index, part):
    """Return a tuple with another element in the place of one of them."""
    return parts[:index] + (part,) + parts[index + 1:]
