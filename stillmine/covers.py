"""Covers: the least masks that lead to a trouble in a web, and the cheapest mask that has a bit of each of them."""

from stillmine.webs import FREE, GOAL, START, bits_of, is_harmful, turned


def least_masks(web):
    """Return the list of the least masks by which one gets from START to GOAL.

    They are sought from GOAL backwards, as few nodes lead to a trouble in few ways, and many are led to.
    """
    back = turned(web)
    found = [{} for _ in web]
    waiting = [(GOAL, 0)]
    # All masks of a round have the same number of bits, so that none found in a later one is less.
    while waiting:
        following = {}
        while waiting:
            node, mask = waiting.pop()
            if has_part(found[node], mask) or has_part(found[START], mask):
                continue
            found[node].setdefault(mask & -mask, []).append(mask)
            for source, edge in back[node].items():
                if edge & (mask | FREE):
                    waiting.append((source, mask))
                else:
                    following.update({(source, mask | bit): True for bit in bits_of(edge)})
        waiting = list(following)
    return [mask for masks in found[START].values() for mask in masks]


def has_part(found, whole):
    """Return whether a mask is found that has no bits but those of a whole one; found has lists by lowest bits."""
    for bit in found:
        if bit & whole == bit:
            for mask in found[bit]:
                if mask & whole == mask:
                    return True
    return False


def cheapest_cover(web, costs):
    """Return the cheapest mask without which one does not get to GOAL; costs leads from bits to numbers."""
    whole = sum(list(costs))
    masks, cover = [], 0
    while is_harmful(web, whole - cover):
        masks.append(least_part(web, whole - cover))
        cover = cover_of(masks, costs, sum(list(costs.values())) + 1)
    return cover


def least_part(web, mask):
    """Return a mask by which one gets to GOAL, but by no smaller part of it, as a part of one that leads there."""
    for bit in bits_of(mask):
        if is_harmful(web, mask - bit):
            mask -= bit
    return mask


def cover_of(masks, costs, limit):
    """Return the cheapest mask that has a bit of each of some masks, or None if none costs less than a limit."""
    if limit <= 0:
        return None
    if not masks:
        return 0
    cover, passed = None, 0
    for bit in bits_of(min(masks, key=lambda each: len(bits_of(each)))):
        # What covers that have one of the bits before cost is known, so that those are left out here.
        rest = [mask - (mask & passed) for mask in masks if not mask & bit]
        told = cover_of(rest, costs, limit - costs[bit])
        if told is not None:
            cover = told | bit
            limit = sum([costs[each] for each in bits_of(cover)])
        passed |= bit
    return cover
