"""What becomes of a plot if the rule changes on a day."""

from soundtitle.layers import Counts, Marks, by_key, layer_behind, led_on, way_of
from soundtitle.moments import moments
from soundtitle.walks import base_behind, deals, is_sound_in, state_behind, states


def changed(roll, plot, rule, later, day, truth):
    """The list of the states, one for each place, if the rule changes on a day to a later one."""
    elder = states(roll, plot, rule, truth)
    turn = _turn(moments(roll, plot), day)
    line = elder[:turn + 1]
    state = (elder[turn][0], states(roll, plot, later, truth)[turn][1], ())
    for deal in deals(roll, plot)[turn:]:
        state = state_behind(later, deal, state, is_sound_in(deal, truth))
        line.append(state)
    return line


def holders_changed(case, plot, rule, later, day):
    """The dict from the names to how many truths of the Case have them as the holder then."""
    way = way_of(case, plot)
    counts = Counts({head: (1, 1) for head in way.bits}, way.bound)
    turn = _turn(moments(case.roll(), plot), day)
    layer = led_on(way, 0, turn, _first_layer(way, counts), _elder_behind(way, rule, later), counts)
    layer = led_on(way, turn, way.last, _turned(layer, counts), way.behind(later), counts)
    ends = by_key(layer, counts, lambda state: state[0])
    return {name: sum(counts.by_voids(ends[name], way.unasked(way.last))) for name in ends}


def days_safe(case, plot, rule, later, name):
    """The ascending list of the days on which the rule may change so that a name holds the plot in all truths.

    Of all days, those of moments of the plot are asked, and the day behind the last one, or 0 if there is none.
    """
    way = way_of(case, plot)
    rows = moments(case.roll(), plot)
    days = sorted(set([day for day, _, _ in rows]))
    days.append(days[-1] + 1 if days else 0)
    kept = case.shelf(("changes", plot, rule, later))
    if not kept:
        kept.append(_holders_by_days(way, rule, later, [_turn(rows, day) for day in days]))
    unsafe = [at for other, some in kept[0].items() if other != name for at in some]
    return [day for at, day in enumerate(days) if at not in unsafe]


def _holders_by_days(way, rule, later, turns):
    """The dict from the names that hold the plot in some truth to the days, told by their places in turns."""
    # The mark of a truth tells on which of the days the rule has changed.
    marks = Marks(way, len(turns), 1)
    elder, layer = _first_layer(way, marks), {}
    for place in range(way.last + 1):
        if place in turns:
            at = turns.index(place)
            for state, worths in _turned(elder, marks).items():
                moved = [(mask, mask, worth << at) for mask, worth in worths.items()]
                marks.put(layer.setdefault(state, {}), moved)
        if place < way.last:
            elder = layer_behind(way, place, elder, _elder_behind(way, rule, later), marks)
            layer = layer_behind(way, place, layer, way.behind(later), marks)
    ends = by_key(layer, marks, lambda state: state[0])
    return {name: marks.told(worth) for name, worth in ends.items()}


def _turn(rows, day):
    """The place behind the last moment ahead of a day."""
    return len([row for row in rows if row[0] < day])


def _first_layer(way, measure):
    """The layer of the first place, ahead of the change: its states go with the base by the later rule."""
    return {(way.first, way.first[1]): {0: measure.start}}


def _elder_behind(way, rule, later):
    """What tells the states behind a moment ahead of the change."""
    by_elder = way.behind(rule)
    return lambda place, both, is_sound: (
        by_elder(place, both[0], is_sound), base_behind(later, way.deals[place], both[1], is_sound)
    )


def _turned(layer, measure):
    """The layer at the change, from the one ahead of it."""
    found = {}
    for (state, base), worths in layer.items():
        moved = [(mask, mask, worth) for mask, worth in worths.items()]
        measure.put(found.setdefault((state[0], base, ()), {}), moved)
    return found
