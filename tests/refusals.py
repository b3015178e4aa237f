"""What tests ask of refusals and of what is told."""

from tickrows.errors import TickError


def refuses(test, refusal, call, *things):
    """The very refusal, not one that stands under it or above it."""
    with test.assertRaises(TickError, msg=f"{call.__name__}{things}") as caught:
        call(*things)
    test.assertIs(type(caught.exception), refusal, f"{call.__name__}{things}")


def tells_a_new_list(test, call, *things):
    """Whoever gets a told list may change it, and the same is told again."""
    told = call(*things)
    test.assertIs(type(told), list)
    kept = list(told)
    told.append("more")
    told.reverse()
    test.assertEqual(call(*things), kept)
    told.clear()
    test.assertEqual(call(*things), kept)


def tells_a_new_dict(test, call, *things):
    """Whoever gets a told dict may change it, and the same is told again."""
    told = call(*things)
    test.assertIs(type(told), dict)
    kept = dict(told)
    for name in kept:
        told[name] = "changed"
    told["more"] = "more"
    test.assertEqual(call(*things), kept)
    told.clear()
    test.assertEqual(call(*things), kept)
