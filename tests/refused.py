"""Checks of calls that are refused: which error, with which attributes, whatever else is wrong."""

import inspect


def carried_out(function, args, named):
    """Call a function, and go through what it yields."""
    result = function(*args, **named)
    return list(result) if inspect.isgenerator(result) else result


def check_refused(case, error, told, function, *args, **named):
    """Check that a call raises an error of just this class, with these attributes, which are the very values."""
    with case.assertRaises(error, msg=f"{function.__name__} {repr(args)[:200]} {repr(named)[:200]}") as context:
        carried_out(function, args, named)
    case.assertIs(context.exception.__class__, error)
    found = vars(context.exception)
    case.assertEqual(list(found), list(told))
    for name, value in told.items():
        if isinstance(value, int) and not isinstance(value, bool):
            case.assertEqual((found[name].__class__, found[name]), (int, value), f"{repr(args)[:200]} {repr(named)[:200]}")
        else:
            case.assertIs(found[name], value)


def check_parameters(case, function, names, right, wrong, only_named=()):
    """Check all errors of a call: each parameter alone, by position and by name, and each two of them.

    `names` are the parameters in the order of the signature, `right` are right arguments, and `wrong` is a dict
    from parameters to lists of triples: a wrong value, its error, and what the error tells. The parameters of
    `only_named` are passed by name.
    """
    def call(values, by_name):
        here = [value for name, value in zip(names, values) if name not in only_named and not by_name]
        rest = {name: value for name, value in zip(names, values) if name in only_named or by_name}
        return here, rest

    def check(values, error, told):
        for by_name in (False, True):
            here, rest = call(values, by_name)
            check_refused(case, error, told, function, *here, **rest)

    listed = [at for at, name in enumerate(names) if name in wrong]
    for at in listed:
        for value, error, told in wrong[names[at]]:
            check([*right[:at], value, *right[at + 1:]], error, told)
        first, error, told = wrong[names[at]][0]
        for later in [later for later in listed if later > at]:
            for second, other_error, other_told in wrong[names[later]][:3]:
                values = list(right)
                values[at], values[later] = first, second
                check(values, error, told)


def values_told(error, values):
    """Return triples for values that are wrong, with an error that tells the value."""
    return [(value, error, {"value": value}) for value in values]


def indexes_told(error, pairs):
    """Return triples for pairs of a wrong value and an index, with an error that tells the index."""
    return [(value, error, {"index": index}) for value, index in pairs]
