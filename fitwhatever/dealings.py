"""Dealings: which bounds sizes are given by menus of steps, and the cheapest by which all always goes together."""

from fitwhatever.errors import NoDealing, TooMany
from fitwhatever.margins import broken_by, chain_sums, margins_of
from fitwhatever.numbers import is_less, is_number, is_whole
from fitwhatever.stocks import spread

MOST_STEPS = 8
MOST_DEALINGS = 4096


def dealings_many(menus):
    """How many dealings the menus have."""
    refuse_menus(menus)
    many = 1
    for steps in menus.values():
        many = many * len(steps)
    return many


def price_of(menus, dealing):
    """The price of a dealing: the sum of its steps' prices."""
    refuse_menus(menus)
    refuse_dealing(menus, dealing)
    return price_by(menus, dealing)


def dealt(assembly, menus, dealing):
    """A new assembly in which the sizes of the menus have their steps' bounds."""
    refuse_menus(menus)
    refuse_strangers(assembly, menus)
    refuse_dealing(menus, dealing)
    told = assembly.with_parts(assembly.parts())
    for name, k in dealing.items():
        told = told.with_bounds(name, menus[name][k][0], menus[name][k][1])
    return told


def cheapest(assembly, menus):
    """The least price of a dealing by which all always goes together, and the first such dealing."""
    refuse_menus(menus)
    refuse_strangers(assembly, menus)
    if dealings_many(menus) > MOST_DEALINGS:
        raise TooMany("there are at most 4096 dealings")
    margins = margins_of(chain_sums(assembly.gaps()), assembly.stock(), bounds_of(menus))
    # Those of one price stay in their order.
    for dealing in sorted(all_dealings(menus), key=lambda dealing: price_by(menus, dealing)):
        broken = broken_by(margins, dealing)
        if broken is None:
            return (price_by(menus, dealing), dealing)
        # What breaks by one dealing mostly breaks by the next one, too.
        margins.remove(broken)
        margins.insert(0, broken)
    raise NoDealing("by no dealing all always goes together")


def refuse_menus(menus):
    """Refuse what are no menus; whether their names are sizes isn't looked at."""
    if not isinstance(menus, dict):
        raise NoDealing("menus are a dict")
    for name, steps in menus.items():
        if not isinstance(name, str):
            raise NoDealing("menus are told by names")
        if not isinstance(steps, tuple) or not 1 <= len(steps) <= MOST_STEPS:
            raise NoDealing("a menu is a tuple of one to eight steps")
        if not all([is_step(step) for step in steps]):
            raise NoDealing("a step has a least, a most and a price")


def is_step(step):
    """Whether a value is a tuple of bounds, the right way about, and a price from 0 on."""
    if not isinstance(step, tuple) or len(step) != 3:
        return False
    if not is_number(step[0]) or not is_number(step[1]) or is_less(step[1], step[0]):
        return False
    return is_whole(step[2]) and step[2] >= 0


def refuse_strangers(assembly, menus):
    """Refuse menus with names that are no sizes of the assembly."""
    names = [size.name for size in assembly.stock().sizes()]
    for name in menus:
        if name not in names:
            raise NoDealing(f"there is no size {name}")


def refuse_dealing(menus, dealing):
    """Refuse what is no dealing of the menus."""
    if not isinstance(dealing, dict) or set(dealing) != set(menus):
        raise NoDealing("a dealing is a dict with the names of the menus")
    for name, k in dealing.items():
        if not is_whole(k) or not 0 <= k < len(menus[name]):
            raise NoDealing(f"the menu of {name} has no such step")


def price_by(menus, dealing):
    """The sum of the steps' prices."""
    return sum([menus[name][k][2] for name, k in dealing.items()])


def all_dealings(menus):
    """All dealings, names rising, the lesser step first."""
    told = [{}]
    for name in sorted(menus):
        told = spread(told, [{name: k} for k in range(len(menus[name]))])
    return told


def bounds_of(menus):
    """The bounds that each size may have, as a dict from names to lists of (least, most)."""
    bounds = {}
    for name, steps in menus.items():
        bounds[name] = [(step[0], step[1]) for step in steps]
    return bounds
