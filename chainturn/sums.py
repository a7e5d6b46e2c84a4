"""Sums, halves and boxes: which answers hold, and how sums are turned to halves, halves to boxes."""

from chainturn.answers import is_choice, not_chosen, refuse_unless


def sums_hold(question, answer):
    numbers = question[1]
    return is_choice(answer, len(numbers)) and sum_at(numbers, answer) == question[2]


def halves_hold(question, answer):
    numbers = question[1]
    return is_choice(answer, len(numbers)) and 2 * sum_at(numbers, answer) == sum(numbers)


def boxes_hold(question, answer):
    numbers = question[1]
    if len(answer) != len(numbers) or not all([0 <= box < question[3] for box in answer]):
        return False
    # There may be far more boxes than numbers, so only those that hold something are kept.
    filled = {}
    for box, number in zip(answer, numbers):
        filled[box] = filled.get(box, 0) + number
    return all([held <= question[2] for held in filled.values()])


def turn_evening(question):
    numbers = question[1]
    goal = question[2]
    total = sum(numbers)
    if goal > total:
        return ("halves", numbers + [total + 1])
    return ("halves", numbers + [total + 1 - goal, goal + 1])


def forth_evening(question, answer):
    refuse_unless(sums_hold(question, answer))
    return answer + [len(question[1])]


def back_evening(question, answer):
    refuse_unless(halves_hold(turn_evening(question), answer))
    many = len(question[1])
    # The two added numbers come to more than half of all: each side has just one of them, as its last place.
    return answer[:-1] if many in answer else not_chosen(many, answer)


def turn_packing(question):
    return ("boxes", list(question[1]), sum(question[1]) // 2, 2)


def forth_packing(question, answer):
    refuse_unless(halves_hold(question, answer))
    boxes = [1] * len(question[1])
    for place in answer:
        boxes[place] = 0
    return boxes


def back_packing(question, answer):
    refuse_unless(boxes_hold(turn_packing(question), answer))
    return [place for place, box in enumerate(answer) if box == 0]


def sum_at(numbers, places):
    return sum([numbers[place] for place in places])


def powers(base, many):
    found = []
    power = 1
    for place in range(many):
        found.append(power)
        power = power * base
    return found
