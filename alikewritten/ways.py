"""What the searches share: the least way to an end, and what sets two texts apart."""


# The way is told as a list of marks, or None where no end can be come to.
# steps(place) lists pairs of a mark and the place it leads to. A list of steps
# in rising order of marks makes the told way the least one: places are then
# found in the order of their least ways, level by level.
def least_way(start, steps, is_end):
    came = {start: None}
    front = [start]
    while front:
        for place in front:
            if is_end(place):
                return way_to(came, place)
        front = places_behind(front, steps, came)
    return None


def places_behind(front, steps, came):
    found = []
    for place in front:
        for mark, goal in steps(place):
            if goal not in came:
                came[goal] = (place, mark)
                found.append(goal)
    return found


def way_to(came, place):
    marks = []
    step = came[place]
    while step is not None:
        marks.append(step[1])
        step = came[step[0]]
    marks.reverse()
    return marks


def without_shared(text, other):
    shared = 0
    while shared < min(len(text), len(other)) and text[shared] == other[shared]:
        shared += 1
    return (text[shared:], other[shared:])
