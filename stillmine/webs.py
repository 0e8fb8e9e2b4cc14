"""Webs: by which stop points one gets from state to state of a rule, and to a trouble.

A web is a list of dicts, one for each node. The dict of a node leads from the nodes to which one gets from
it to masks: a mask is the sum of the bits of the stop points by each of which one gets there, and of FREE
if no stop is needed for it. The node START stands for a new file, GOAL for a deed that has the trouble.
"""

from stillmine.states import first_state
from stillmine.walks import contents_that_count, held_by, pattern_of_state, pointed_steps_of

START = 0
GOAL = 1
FREE = 1


def points_of(rule):
    """Return the list of all stop points of a rule, ascending."""
    points = []
    for position, line in enumerate(rule.lines):
        lists = [("steps", line[1])] if len(line) == 2 else [("keep", line[2]), ("take", line[1])]
        for word, steps in lists:
            points.extend([(position, word, done) for done in range(len(steps))])
    return points


def bits_of(mask):
    """Return the list of the bits of a mask but for FREE, ascending."""
    bits = []
    left = mask - (mask & FREE)
    while left:
        bits.append(left & -left)
        left -= bits[-1]
    return bits


def web_of(rule, trouble, bits):
    """Return the web of a rule, with a node for each pattern; bits leads from the stop points to their bits."""
    numbers = {pattern_of_state(first_state(rule)): START}
    # There is no state behind the trouble: whoever sees it looks no further.
    states = [first_state(rule), None]
    web = [{}, {}]
    at = START
    while at < len(states):
        state, edges = states[at], web[at]
        for point, (_, troubles, after) in all_steps(rule, state):
            target = GOAL
            if trouble not in troubles:
                target = numbers.setdefault(pattern_of_state(after), len(states))
            if target == len(states):
                states.append(after)
                web.append({})
            edges[target] = edges.get(target, 0) | (FREE if point is None else bits[point])
        at += 1
    return web


def all_steps(rule, state):
    """Return the list of all tuples (stop point or None, step) of a state, if there is one."""
    if state is None:
        return []
    return pointed_steps_of(rule, state, contents_that_count(held_by(state)), True)


def nodes_from(web, node, mask):
    """Return the dict of the nodes to which one gets from a node by what a mask has."""
    met = {node: True}
    waiting = [node]
    while waiting:
        here = waiting.pop()
        for target, edge in web[here].items():
            if edge & mask and target not in met:
                met[target] = True
                waiting.append(target)
    return met


def is_harmful(web, mask):
    """Return whether one gets from START to GOAL by what a mask has, and without any stops."""
    return GOAL in nodes_from(web, START, mask | FREE)


def turned(web):
    """Return the web in which all goes in the other direction."""
    back = [{} for _ in web]
    for node, edges in enumerate(web):
        for target, edge in edges.items():
            back[target][node] = edge
    return back


def joined(web, numbers, mask):
    """Return the web whose nodes are those of a web joined, with only what a mask has.

    numbers leads from nodes to the numbers of the new ones, all from 0 on; what is not in it is left out.
    Nothing leads to START any more, as who is there has gained nothing; where no stop is needed, none counts.
    """
    made = [{} for _ in range(max(list(numbers.values())) + 1)]
    for node, edges in enumerate(web):
        for target, edge in edges.items():
            if node in numbers and edge & mask and numbers.get(target, START) not in (START, numbers[node]):
                ahead = made[numbers[node]]
                whole = (edge & mask) | ahead.get(numbers[target], 0)
                ahead[numbers[target]] = FREE if whole & FREE else whole
    return made


def reduced(web, mask):
    """Return a smaller web with the same least harmful masks among what a mask has, if none are harmful for free."""
    near = nodes_from(web, START, FREE)
    reached = nodes_from(web, START, mask | FREE)
    useful = nodes_from(turned(web), GOAL, mask | FREE)
    others = [node for node in useful if node in reached and node not in near and node != GOAL]
    numbers = {node: START for node in near}
    numbers[GOAL] = GOAL
    for number, node in enumerate(others):
        numbers[node] = GOAL + 1 + number
    made = joined(web, numbers, mask | FREE)
    return joined(made, kinds_of(made), mask | FREE)


def kinds_of(web):
    """Return a dict from nodes to numbers, the same ones for nodes from which all goes on alike."""
    kinds = {node: min(node, GOAL + 1) for node in range(len(web))}
    count = 0
    while max(list(kinds.values())) >= count:
        count = max(list(kinds.values())) + 1
        known = {}
        kinds = {node: known.setdefault(outlook(edges, kinds, node), len(known)) for node, edges in enumerate(web)}
    return kinds


def outlook(edges, kinds, node):
    """Return what tells the kind of a node: its kind as known so far, and how it leads to nodes of other kinds."""
    ahead = {}
    for target, edge in edges.items():
        if kinds[target] != kinds[node]:
            whole = edge | ahead.get(kinds[target], 0)
            ahead[kinds[target]] = FREE if whole & FREE else whole
    return kinds[node], tuple(sorted(list(ahead.items())))


def classes_of(web):
    """Return the list of the masks of the bits that do just the same in a web, one for each class of them."""
    edges_by = {}
    for node, edges in enumerate(web):
        for target, edge in edges.items():
            for bit in bits_of(edge):
                edges_by.setdefault(bit, []).append((node, target))
    masks = {}
    for bit, known in edges_by.items():
        masks[tuple(known)] = masks.get(tuple(known), 0) | bit
    return list(masks.values())
