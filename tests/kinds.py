"""Things of many kinds, for functions that answer or refuse anything."""


class Prickly:
    """An object that lets nobody compare, count, index or test it."""

    def refuse(self, *rest):
        raise RuntimeError("this object was not to be asked")

    __eq__ = __ne__ = __lt__ = __le__ = __gt__ = __ge__ = refuse
    __bool__ = __len__ = __iter__ = __getitem__ = __contains__ = refuse
    __int__ = __index__ = __hash__ = __add__ = __radd__ = __sub__ = __rsub__ = refuse


def nested(thing, deep, wrap):
    for _ in range(deep):
        thing = wrap(thing)
    return thing


def strange_things():
    """Things that are neither a row, nor a place, nor a run."""
    return [
        None, True, False, "", "0", "1 2", "012", b"", b"\x00\x01\x02",
        (), [], {}, set(), frozenset(), [0], [0, 1], [0, 1, 2], [3, 4, 5], {0: 1}, {0, 1, 2},
        range(3), object(), object, int, tuple, len, Prickly(), Prickly, lambda: 0,
        (None,), ("1",), (b"1",), (True,), (False, 1), (1, True), ((1,),), ([1],), ([1, 2],), ({},),
        ((1, 2), (3, 4)), ((0, 1, 2),), [(0, 1, 2)], ((0, 1), 2), (Prickly(),), (Prickly(), 1, 2), (0, 1, Prickly()),
        nested(1, 30, lambda thing: (thing,)), nested(1, 30, lambda thing: [thing]),
        nested((1, 2), 29, lambda thing: (thing, 1)), nested(1, 30, lambda thing: {"a": thing}),
        nested((), 10, lambda thing: (thing, thing)),
        ValueError("x"), ..., NotImplemented, iter(()), (number for number in (1, 2)), slice(0, 1), bytearray(b"a"),
    ]


def no_places(many):
    """Things that are no place of a row of so many places."""
    return strange_things() + [
        -1, -many, -many - 1, many, many + 1, 10 ** 30, -10 ** 30, (0,), (1,), (-1,), (0, 1), (0, 1, 2), (1, 0, 0),
    ]
