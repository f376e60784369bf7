"""Values of every kind that a callable may be handed where any value is said."""

from belowall import errors


def deep(part, times=20):
    """Return part in lists and tuples, so many deep."""
    for k in range(times):
        part = (part,) if k % 2 else [part]
    return part


def deep_tuple(part, times=20):
    """Return part in tuples, so many deep."""
    for _ in range(times):
        part = (part,)
    return part


def any_values():
    """Return values that are nothing in particular: no hand, process, name, deed, word, truth or number from 0 to 9."""
    return [
        None, -1, 10 ** 39, -(10 ** 39), 12, "", "no", "A", "a b", "%", "\n", "None", "(0,)", "x" * 3000, "Root",
        [], [0], [()], [[]], [(0,)], ["root"], ["each"], ["fork"], [True], {}, {0: 0}, {"root": []}, {(): ()},
        {None: {"a": [1, (2,)]}}, ("root",), ("no", "no"), (None,), ((),), ([],), (-1,), (0, -1), ("0",), ((0,),),
        (True,), (False,), (0, True, 0), (0, False), (True, False), (0, 0, None), (99,), (0, 99), (0, 99, 0),
        deep(0), deep("a"), deep_tuple(0), deep_tuple(()), list(range(3000)), tuple(range(2999)), tuple(range(3000)),
        [None] * 3000, {k: str(k) for k in range(1000)}, errors.Wrong(0), errors.NoText(), errors.Stuck([1]),
    ]


def truths():
    """Return both truths, which are never taken for 1 and 0."""
    return [True, False]
