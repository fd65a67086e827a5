"""Words that are taken several times, also where they are too long to be written out."""


def root_of(word):
    """Return the shortest word that, taken several times, is a word that is not empty."""
    return word[:(word + word).find(word, 1)]


def common_end(text, word):
    """Return how many letters a text ends with that a word, taken often enough, ends with too."""
    same = 0
    while same < len(text) and text[-1 - same] == word[-1 - same % len(word)]:
        same += 1
    return same


def turned(word, letters):
    """Return a word with so many letters, however many, taken from its end to its front one by one."""
    middle = len(word) - letters % len(word)
    return word[middle:] + word[:middle]


def stretch(word, start, letters):
    """Return so many letters, from the number `start` on, of a word taken without end."""
    first = start % len(word)
    return (word * ((first + letters) // len(word) + 1))[first:first + letters]


def same_stretch(one, start, other, begin, letters):
    """Tell whether two words, taken without end, have the same letters from two places on.

    Where they agree for as long as both words are together, they agree for ever, so no more is compared.
    """
    compared = min(letters, len(one) + len(other))
    return stretch(one, start, compared) == stretch(other, begin, compared)


def same_runs(one, other):
    """Tell whether two lists of pairs (word, times) write the same; no word in them is empty.

    The pairs are gone through side by side; `ahead` and `behind` say how many letters of the
    two pairs that are open have been compared.
    """
    if letters_of_runs(one) != letters_of_runs(other):
        return False
    first, second, ahead, behind = 0, 0, 0, 0
    while first < len(one) and second < len(other):
        word, times = one[first]
        mate, often = other[second]
        both = min(len(word) * times - ahead, len(mate) * often - behind)
        # Where both are at the same letter of the same word, nothing needs to be put together.
        same = word == mate and (ahead - behind) % len(word) == 0
        if not same and not same_stretch(word, ahead, mate, behind, both):
            return False
        ahead, behind = ahead + both, behind + both
        if ahead == len(word) * times:
            first, ahead = first + 1, 0
        if behind == len(mate) * often:
            second, behind = second + 1, 0
    return True


def letters_of_runs(runs):
    """Return how many letters a list of pairs (word, times) writes."""
    return sum([len(word) * times for word, times in runs])
