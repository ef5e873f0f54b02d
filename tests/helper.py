"""What several tests use: odd values, changed tuples, and examples of the document."""

import doctest


class Prickly:
    """An object that cannot be hashed, compared or measured."""

    def refuse(self, *told):
        raise AssertionError("asked for more than its kind")

    __hash__ = None
    __eq__ = __ne__ = __lt__ = __le__ = __gt__ = __ge__ = refuse
    __len__ = __iter__ = __bool__ = __index__ = __contains__ = refuse


def nested(inner, depth):
    """Return a value inside so many tuples."""
    for _ in range(depth):
        inner = (inner,)
    return inner


def odd_values():
    """Return values of many kinds, none of them an integer from 0 on or a tuple with elements."""
    return [
        True, False, None, -1, -10 ** 39, "", "0", "1", "cache", b"", b"cache", (), [], [0], [[]],
        {}, {0: 1}, {"cache": ()}, set(), {1}, frozenset(), range(2), object(), object, len, Ellipsis,
        lambda: 0, Prickly(), nested([], 3)[0][0],
    ]


def spots(value, path=()):
    """Yield the path to each value inside nested tuples, that of the whole one first."""
    yield path
    if isinstance(value, tuple):
        for index, inner in enumerate(value):
            yield from spots(inner, path + (index,))


def at(value, path):
    """Return the value inside nested tuples to which a path leads."""
    for index in path:
        value = value[index]
    return value


def put(value, path, new):
    """Return the nested tuples with another value where a path leads."""
    if not path:
        return new
    index = path[0]
    return value[:index] + (put(value[index], path[1:], new),) + value[index + 1:]


def changed_by(whole, values):
    """Yield what nested tuples become if the value at any depth is replaced by each of some values, or by a list."""
    for path in spots(whole):
        inner = at(whole, path)
        for value in values:
            yield put(whole, path, value)
        if isinstance(inner, tuple):
            yield put(whole, path, list(inner))
        yield put(whole, path, [inner])
        yield put(whole, path, (inner,))


def run_example(case, text):
    """Run an example in the form of the document and compare what it prints."""
    example = doctest.DocTestParser().get_doctest(text, {}, case.id(), None, 0)
    told = []
    result = doctest.DocTestRunner(verbose=False).run(example, out=told.append)
    case.assertGreater(result.attempted, 0)
    case.assertEqual(result.failed, 0, "".join(told))
