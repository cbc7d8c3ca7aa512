"""Things of many kinds, for what is to judge any object."""

import growalong.errors
from growalong.benches import Bench
from growalong.programs import Program
from growalong.records import Record
from growalong.webs import Web, full

DEEP = 40
MANY = 20000


def nested(kind, depth):
    thing = 0
    for _ in range(depth):
        thing = {"a": thing} if kind is dict else kind([thing])
    return thing


def odd_things():
    """New ones each time: none of them is a machine, a pair, an order, a wire or a run."""
    return [
        None, True, False, -1, -10 ** 39, 10 ** 39, "", "0", "put", "a" * 40000, b"", b"put", bytearray(b"a"),
        {}, {0: 1}, {"put": 0}, {(0, 1): (1, 0)}, range(3), range(0), slice(1), Ellipsis, NotImplemented,
        memoryview(b"a"), iter([]), (k for k in ()), print, len, int, tuple, type, object(), lambda: 0,
        odd_things, growalong, ValueError(), ValueError,
        Web, Web(2, ((0, 1),)), full(3), Record((0,), ((0,), ())), Record, growalong.errors.GrowError,
        Program((0,), ((),)), Program((1, 0), ((), (("rest",),))), Program, Bench(full(1), Program((0,), ((),))), Bench,
        growalong.errors.BadWeb([1]), growalong.errors.NoWire(), growalong.errors.NoWire,
        [None], (None,), ([],), ({},), ((),), [[]], (full(2),), [full(2)], ("put",), ["put"], (True, False), [True],
        ((True, False),), (("put", True),), [("come", True, False)], (("put", full(2)),), [("come", None, ())],
        ((b"put", 0),), [(full(2), 0)], [(("put", 0), 0)], [({}, [])], (("put", 0, 1),), [["put", 0]],
        nested(list, DEEP), nested(tuple, DEEP), nested(dict, DEEP),
        (nested(list, DEEP - 1), nested(tuple, DEEP - 1)), [("put", nested(dict, DEEP - 2))],
        [None] * (MANY - 1), (None,) * (MANY - 1), [()] * (MANY - 1), {k: None for k in range(MANY // 2 - 1)},
    ]
