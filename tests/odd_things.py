"""Things of other kinds than whole numbers and texts, for tests of what is refused whatever it is."""

from decimal import Decimal
from fractions import Fraction


class Stubborn:
    """Fails where it is compared, counted, walked, hashed or asked for its truth."""

    def fail(self, *others):
        raise RuntimeError("touched")

    __eq__ = __ne__ = __lt__ = __le__ = __gt__ = __ge__ = fail
    __bool__ = __len__ = __iter__ = __getitem__ = __contains__ = fail
    __hash__ = __int__ = __index__ = __float__ = fail


class Yielding:
    """Is equal to whatever it is compared with, and passes for 1."""

    def agree(self, *others):
        return True

    __eq__ = __lt__ = __le__ = __gt__ = __ge__ = agree

    def __hash__(self):
        return 1

    def __int__(self):
        return 1

    __index__ = __int__


def others():
    """Things that are neither whole numbers nor texts."""
    return [
        True, False, None, 0.0, 1.0, 1.5, float("nan"), float("inf"), 1j, Decimal(1), Fraction(1),
        [], [1], ["a"], (), (1,), ("a",), {}, {1: 1}, {"a": 1}, set(), {1}, frozenset(["a"]),
        b"", b"a", b"10", bytearray(b"10"), range(3), object(), len, int, str, lambda: 1, iter("a"),
        ValueError("a"), Stubborn(), Yielding(),
    ]
