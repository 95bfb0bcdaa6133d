"""Takes a text, a list of bytes, apart into its tokens."""

from seatheld.faults import TextFault

RESERVED = (
    "script", "parties", "seat", "of", "start", "end", "both", "flag", "num", "text", "part", "stop",
    "send", "recv", "program", "for", "def", "if", "pick", "any", "set", "go", "true", "false",
)
# The signs of the bytes 32 to 126. No token but a quoted text can hold a ~, so it stands here for
# byte 37, and in spelled() for every byte that has no sign of its own.
PRINTED = (
    " !\"#$~&'()*+,-./0123456789:;<=>?@ABCDEFGHIJKLMNOPQRSTUVWXYZ[\\]^_`abcdefghijklmnopqrstuvwxyz{|}~"
)
ARROWS = ("->", "<-")
SINGLES = "={}()[],;:!?|"
HEX_DIGITS = "0123456789abcdef"
MOST_NAME_BYTES = 16
MOST_DIGITS = 10
MOST_NUMBER = 1000000000
MOST_TOLD_BYTES = 255


# kind is "name", "number", "fixed" (a reserved word or a sign), "quoted" or "close" (the text's end).
class Token:
    def __init__(self, kind, word, place, finish):
        self.kind = kind
        self.word = word
        self.place = place
        self.finish = finish


def tokens_of(text):
    signs = "".join([spelled(byte) for byte in text])
    tokens = []
    at = behind_blanks(signs, 0)
    while at < len(signs):
        token = token_at(signs, at)
        tokens.append(token)
        at = behind_blanks(signs, token.finish)
    tokens.append(Token("close", "", len(signs), len(signs)))
    return tokens


def spelled(byte):
    if byte == 9:
        return "\t"
    if byte == 10:
        return "\n"
    if 32 <= byte <= 126:
        return PRINTED[byte - 32]
    return "~"


def behind_blanks(signs, at):
    in_remark = False
    while at < len(signs):
        sign = signs[at]
        if sign == "\n":
            in_remark = False
        elif sign == "#":
            in_remark = True
        elif not in_remark and sign not in (" ", "\t"):
            return at
        at += 1
    return at


def token_at(signs, place):
    sign = signs[place]
    if sign.isalpha():
        return name_at(signs, place)
    if sign.isdigit():
        return number_at(signs, place, place)
    if sign == "-" and signs[place + 1:place + 2].isdigit():
        return number_at(signs, place, place + 1)
    if sign == "\"":
        return quoted_at(signs, place)
    if signs[place:place + 2] in ARROWS:
        return Token("fixed", signs[place:place + 2], place, place + 2)
    if sign in SINGLES:
        return Token("fixed", sign, place, place + 1)
    raise TextFault(2, place)


def name_at(signs, place):
    at = place
    while signs[at:at + 1].isalnum():
        at += 1
    if at - place > MOST_NAME_BYTES:
        raise TextFault(2, place)
    word = signs[place:at]
    return Token("fixed" if word in RESERVED else "name", word, place, at)


def number_at(signs, place, first_digit):
    at = first_digit
    while signs[at:at + 1].isdigit():
        at += 1
    digits = signs[first_digit:at]
    if not is_number(digits, first_digit > place):
        raise TextFault(2, place)
    return Token("number", signs[place:at], place, at)


def is_number(digits, below_zero):
    if len(digits) > MOST_DIGITS:
        return False
    if digits[0] == "0":
        return digits == "0" and not below_zero
    return int(digits) <= MOST_NUMBER


def quoted_at(signs, place):
    told = 0
    at = place + 1
    while signs[at:at + 1] != "\"":
        width = told_width(signs, at)
        if width == 0 or told == MOST_TOLD_BYTES:
            raise TextFault(2, place)
        told += 1
        at += width
    return Token("quoted", "", place, at + 1)


# How many bytes of the text tell the next byte of a quoted text; 0 where none is told.
def told_width(signs, at):
    sign = signs[at:at + 1]
    if sign in ("", "\n"):
        return 0
    if sign != "\\":
        return 1
    told = signs[at + 1:at + 2]
    if told in ("\"", "\\", "n"):
        return 2
    if told == "x" and is_hex_pair(signs[at + 2:at + 4]):
        return 4
    return 0


def is_hex_pair(pair):
    return len(pair) == 2 and pair[0] in HEX_DIGITS and pair[1] in HEX_DIGITS
