"""Cards as the numbers 0 to 51: their suits, their points, and their signs in texts."""

DECK_SIZE = 52
SUIT_SIZE = 13
SUIT_SIGNS = "CDHS"
RANK_SIGNS = "23456789TJQKA"


def suit_of(card):
    return card // SUIT_SIZE


def points_of(card):
    # The four highest ranks are 9 to 12 and have 1 to 4 points.
    return max(0, card % SUIT_SIZE - 8)


def points_together(cards):
    return sum([points_of(card) for card in cards])


def of_suit(cards, suit):
    return [card for card in cards if suit_of(card) == suit]


# The lengths of clubs, diamonds, hearts and spades.
def lengths_of(cards):
    return tuple([len(of_suit(cards, suit)) for suit in range(len(SUIT_SIGNS))])


def card_of_signs(signs):
    return SUIT_SIGNS.index(signs[0]) * SUIT_SIZE + RANK_SIGNS.index(signs[1])


def signs_of_card(card):
    return SUIT_SIGNS[suit_of(card)] + RANK_SIGNS[card % SUIT_SIZE]
