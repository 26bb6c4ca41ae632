"""Pictures of settings of two and of three states: who chooses what where, where telling helps, the roof.

The functions whose names end in _for take arguments that were checked ahead.
"""

from persuasion.cells import cell_corners_in, corners_in, is_full_in
from persuasion.errors import InvalidNumber, Unfit
from persuasion.ratios import NIL, greatest, is_less, is_whole, least, lowest, minus, over, row_product, times
from persuasion.roofs import least_height, roof_for
from persuasion.settings import action_count, check_setting, choice_at, state_count, value_at

# How fine a picture of so many states may be.
MOST_PARTS = {2: 60, 3: 12}
WIDTH = 300
HEIGHT = 200


def strip(setting, many):
    """The figures of the choices at the beliefs of two states that are of so many parts."""
    check_picture(setting, many, (2,))
    return choices_for(setting, many)


def triangle(setting, many):
    """The figures of the choices at the beliefs of three states that are of so many parts."""
    check_picture(setting, many, (3,))
    return choices_for(setting, many)


def choices_for(setting, many):
    """The figures of the choices at the beliefs that are of so many parts."""
    return "\n".join(["".join([str(choice_at(setting, belief)) for belief in row]) for row in grid_of(setting, many)])


def gains(setting, many):
    """The signs "+", where telling helps, and "." of the beliefs that are of so many parts."""
    check_picture(setting, many, (2, 3))
    planes = roof_for(setting)
    return "\n".join(["".join([sign_at(setting, planes, belief) for belief in row]) for row in grid_of(setting, many)])


def sign_at(setting, planes, belief):
    """The sign of a belief, by the roof's planes."""
    return "+" if is_less(value_at(setting, belief), least_height(planes, belief)) else "."


def check_picture(setting, many, counts):
    """The errors of both; Unfit for other numbers of states than these."""
    check_setting(setting)
    states = state_count(setting)
    if states not in counts:
        raise Unfit(states)
    if not are_parts_for(states, many):
        raise InvalidNumber(many)


def are_parts_for(states, value):
    """Whether a value, whatever it is, is a number of parts that is let for so many states."""
    return is_whole(value) and 1 <= value <= MOST_PARTS[states]


def grid_of(setting, many):
    """The beliefs of so many parts, in rows: one row for two states."""
    if state_count(setting) == 2:
        return [[(lowest(many - k, many), lowest(k, many)) for k in range(many + 1)]]
    return [[parted(i, j, many) for i in range(many - j + 1)] for j in range(many + 1)]


def parted(i, j, many):
    """The belief of three states with i parts of the second one and j of the third one."""
    return (lowest(many - i - j, many), lowest(i, many), lowest(j, many))


def drawing(setting):
    """The lines of the full cells' actions and of the roof of a setting of two states, as an SVG."""
    check_setting(setting)
    if state_count(setting) != 2:
        raise Unfit(state_count(setting))
    lines, roof = lines_of(setting), roof_line(setting)
    drawn = [number for line in lines + [roof] for _, number in line]
    low, high = least(drawn), greatest(drawn)
    rows = [f'<svg xmlns="http://www.w3.org/2000/svg" viewBox="0 0 {WIDTH} {HEIGHT}">']
    for line in lines:
        (left, start), (right, end) = [spot_of(point, low, high) for point in line]
        rows.append(f'<line x1="{left}" y1="{start}" x2="{right}" y2="{end}"/>')
    spots = " ".join([f"{x},{y}" for x, y in [spot_of(point, low, high) for point in roof]])
    rows.append(f'<polyline points="{spots}"/>')
    rows.append("</svg>")
    return "\n".join(rows)


def lines_of(setting):
    """For each full cell of two states its corners' second numbers, the lesser one first, and the action's worths."""
    out = []
    for action in range(action_count(setting)):
        if is_full_in(setting, action):
            worths = setting[1][action]
            cell = cell_corners_in(setting, action)
            out.append([(corner[1], row_product(worths, corner)) for corner in reversed(cell)])
    return out


def roof_line(setting):
    """The second numbers of all corners of two states, ascending, and the roof there."""
    planes = roof_for(setting)
    return [(corner[1], least_height(planes, corner)) for corner in reversed(corners_in(setting))]


def spot_of(point, low, high):
    """The whole numbers, across and down, at which a point is drawn."""
    across, number = point
    up = share(number, low, high)
    return (rounded_down(times((WIDTH, 1), across)), HEIGHT - rounded_down(times((HEIGHT, 1), up)))


def share(number, low, high):
    """How far a number is on the way from the least to the greatest one; 0 if these are alike."""
    return NIL if low == high else over(minus(number, low), minus(high, low))


def rounded_down(number):
    """The greatest whole number up to a fraction."""
    return number[0] // number[1]
