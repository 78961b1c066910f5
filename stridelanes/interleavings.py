"""Interleavings: all ways in which a few lanes may take turns, and the integers that they leave.

What lanes do is given as a list with the list of the steps of each lane. A step is a tuple (target, plus, sources)
as elsewhere, but places are given by numbers: what they hold is a tuple of integers, one for each place.
"""


def do_interfere(step, other):
    """Tell whether two steps of different lanes may leave something else in the other order."""
    return step[0] == other[0] or step[0] in other[2] or other[0] in step[2]


def integers_after(integers, step):
    """Return what the places hold after a step."""
    target, plus, sources = step
    return integers[:target] + (plus + sum([integers[source] for source in sources]),) + integers[target + 1:]


def is_free(steps, done, lane):
    """Tell whether the next step of a lane does not interfere with any step that other lanes still have to do."""
    step = steps[lane][done[lane]]
    for other, others in enumerate(steps):
        if other != lane and any([do_interfere(step, later) for later in others[done[other]:]]):
            return False
    return True


def turns_to_try(steps, done):
    """Return a list of the lanes that may be next; what is left out leaves nothing that they do not leave, too."""
    waiting = [lane for lane in range(len(steps)) if done[lane] < len(steps[lane])]
    for lane in waiting:
        if is_free(steps, done, lane):
            return [lane]
    return waiting


def ends_of_phase(steps, starts):
    """Return the list of all tuples of integers that the places may hold when all steps are done.

    At first they hold one of the tuples of a list.
    """
    nothing = (0,) * len(steps)
    waiting = [(nothing, integers) for integers in starts]
    seen = {state: True for state in waiting}
    ends = []
    while waiting:
        done, integers = waiting.pop()
        turns = turns_to_try(steps, done)
        if not turns:
            ends.append(integers)
        for lane in turns:
            after = integers_after(integers, steps[lane][done[lane]])
            state = (done[:lane] + (done[lane] + 1,) + done[lane + 1:], after)
            if state not in seen:
                seen[state] = True
                waiting.append(state)
    return ends
