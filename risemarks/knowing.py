"""Who knew which mark: chains of news through a journal."""


def makings(journal, mark):
    return [place for place, entry in enumerate(journal) if entry[0][0] == "make" and entry[1] == mark]


def maker_at(journal, place):
    return journal[place][0][1]


def readings_of_news(journal):
    sent = {}
    pairs = []
    for place, entry in enumerate(journal):
        deed = entry[0]
        if deed[0] == "news":
            sent[entry[1]] = place
        if deed[0] == "carry" and deed[1] in sent:
            pairs.append((sent[deed[1]], place))
    return pairs


def longer_ways(journal, pairs, ways, earliest):
    longer = {}
    for news, carry in pairs:
        hand = journal[news][0][1]
        to = journal[news][0][2]
        if hand not in ways or ways[hand][-1] >= news:
            continue
        # Pairs come by rising carries: the first that is found for a hand is its earliest of this length.
        # A longer row is of use only where it comes earlier than the shorter ones.
        if to not in longer and (to not in earliest or carry < earliest[to]):
            longer[to] = ways[hand] + [news, carry]
    return longer


def chain(journal, one, other):
    firsts = makings(journal, one)
    lasts = makings(journal, other)
    if one == other or len(firsts) != 1 or len(lasts) != 1:
        return None
    first = firsts[0]
    last = lasts[0]
    pairs = readings_of_news(journal)
    # For each hand a row of places by which it came to know the one, all rows of a round of one length.
    ways = {maker_at(journal, first): [first]}
    earliest = {maker_at(journal, first): first}
    goal = maker_at(journal, last)
    while len(ways) > 0:
        if goal in ways and ways[goal][-1] < last:
            return ways[goal] + [last]
        ways = longer_ways(journal, pairs, ways, earliest)
        for hand in ways:
            earliest[hand] = ways[hand][-1]
    return None


def are_rising(places):
    return all([place < behind for place, behind in zip(places, places[1:])])


def hand_told(journal, hand, news, carry):
    deed = journal[news][0]
    if deed[0] != "news" or deed[1] != hand:
        return None
    if journal[carry][0] != ("carry", journal[news][1]):
        return None
    return deed[2]


def is_chain(journal, one, other, places):
    if len(places) < 2 or len(places) % 2 == 1 or not are_rising(places):
        return False
    # Marks that are alike are made at one place alone, and rising places are unlike.
    if [places[0]] != makings(journal, one) or [places[-1]] != makings(journal, other):
        return False
    hand = maker_at(journal, places[0])
    between = places[1:-1]
    for news, carry in zip(between[::2], between[1::2]):
        hand = hand_told(journal, hand, news, carry)
    return hand == maker_at(journal, places[-1])
