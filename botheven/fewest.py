"""What is made of as few moves as can be, each of which changes some figures of a number."""


def fewest_sums(moves):
    """Return a dict: each number that moves make of 0, with as few of them as can be, by their names.

    moves are pairs of a name and of the number that tells which figures the move changes.
    """
    found = {0: ()}
    queue = [0]
    # Numbers that need fewer moves come first, so each is met first with the fewest that it needs.
    while queue:
        number = queue.pop(0)
        for name, figures in moves:
            if number ^ figures not in found:
                found[number ^ figures] = found[number] + (name,)
                queue.append(number ^ figures)
    return found
