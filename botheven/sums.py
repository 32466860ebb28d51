"""Sums of the numbers of some ties."""


def sum_on(numbers, lot):
    """Return the sum of the numbers of the lot's ties."""
    return sum([numbers[tie] for tie in lot])


def odd_on(numbers, lot):
    """Tell whether the numbers of the lot's ties have an odd sum."""
    return sum_on(numbers, lot) & 1 == 1


def sum_with(numbers, slope):
    """Return the sum of all products of the numbers and of the slope's integers, tie by tie."""
    return sum([number * item for number, item in zip(numbers, slope)])


def odd_ties(numbers):
    """Return the lot of the ties with odd numbers."""
    return tuple([tie for tie, number in enumerate(numbers) if number & 1])


def with_ones(web, lot):
    """Return the standing with 1 on the lot's ties and 0 on all others."""
    return tuple([int(tie in lot) for tie in range(len(web[1]))])
