"""What the answers of several kinds have in common."""

from chainturn.errors import NoAnswer


def refuse_unless(held):
    if not held:
        raise NoAnswer("the answer does not hold")


def is_choice(numbers, many):
    if not all([0 <= number < many for number in numbers]):
        return False
    return all([one < other for one, other in zip(numbers, numbers[1:])])


def not_chosen(many, choice):
    chosen = dict([(number, True) for number in choice])
    return [number for number in range(many) if number not in chosen]
