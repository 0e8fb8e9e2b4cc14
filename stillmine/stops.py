"""Stops: on which stops amid the steps a trouble hangs."""

from stillmine.covers import cheapest_cover, least_masks
from stillmine.states import first_state
from stillmine.troubles import refuse_bad_trouble
from stillmine.walks import pattern_of_state, walked
from stillmine.webs import FREE, all_steps, bits_of, classes_of, is_harmful, points_of, reduced, web_of


def harmful(rule, trouble):
    """Return the list of the least harmful sets of stop points, each a list."""
    refuse_bad_trouble(trouble)
    danger = danger_of(rule, trouble)
    if danger is None:
        return [[]]
    sure, classes, web = danger
    sets = [[point] for point in sure]
    for mask in least_masks(web):
        sets.extend(choices_from([classes[bit] for bit in bits_of(mask)]))
    return sorted([sorted(points) for points in sets])


def closing(rule, trouble):
    """Return a list of points, as few as possible, closing which is enough, or None if nothing is enough."""
    refuse_bad_trouble(trouble)
    danger = danger_of(rule, trouble)
    if danger is None:
        return None
    sure, classes, web = danger
    cover = cheapest_cover(web, {bit: len(classes[bit]) for bit in classes})
    return sorted(sure + [point for bit in bits_of(cover) for point in classes[bit]])


def shown(rule, trouble, points):
    """Return a shortest path that stops at none but some points and shows a trouble, or None."""
    refuse_bad_trouble(trouble)
    allowed = {point: True for point in points}
    allowed[None] = True

    def steps(state):
        return [step for point, step in all_steps(rule, state) if point in allowed]

    return walked(first_state(rule), steps, pattern_of_state, trouble)[1]


def danger_of(rule, trouble):
    """Return None if a path without stops shows a trouble, otherwise a tuple (sure, classes, web).

    sure is the list of the stop points that are harmful alone. In the web each bit stands for a class of other
    points that do just the same, so that one of them is as good as another; classes leads to the lists of them.
    """
    points = points_of(rule)
    bits = {point: 2 << number for number, point in enumerate(points)}
    web = web_of(rule, trouble, bits)
    if is_harmful(web, 0):
        return None
    sure = [point for point in points if is_harmful(web, bits[point])]
    web = reduced(web, sum([bits[point] for point in points if point not in sure]))
    masks = {bits_of(mask)[0]: mask for mask in classes_of(web)}
    classes = {bit: [point for point in points if bits[point] & masks[bit]] for bit in masks}
    kept = sum(list(masks)) | FREE
    return sure, classes, [{target: edge & kept for target, edge in edges.items()} for edges in web]


def choices_from(lists):
    """Return the list of all lists that have one entry of each of some lists."""
    choices = [[]]
    for entries in lists:
        choices = [choice + [entry] for choice in choices for entry in entries]
    return choices
