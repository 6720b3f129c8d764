"""The grammar of a plan (point 2)."""

from watervalves.errors import SyntaxFault
from watervalves.lexer import count_lines, read_tokens

HEAD = ("round", "open", "valves")
# What stands in a statement between its keyword and its ";".
FORMS = {
    "round": ("number",),
    "open": ("number",),
    "valves": ("names",),
    "start": ("name", "number", "for", "number"),
    "pause": ("number", "number"),
    "rank": ("names",),
}


class Statement:
    """A statement: the tokens of its keyword, its names and its numbers."""

    def __init__(self, keyword):
        self.keyword = keyword
        self.names = []
        self.numbers = []


class Parser:
    """Takes the tokens of a plan, one after another, as the grammar says."""

    def __init__(self, plan):
        self.tokens = read_tokens(plan)
        self.lines = count_lines(plan)
        self.taken = 0

    def ahead(self):
        """Return the kind of the next token, None at the end."""
        if self.taken == len(self.tokens):
            return None
        return self.tokens[self.taken].kind

    def refuse(self):
        """Raise the error for the next token, or for the end."""
        if self.taken == len(self.tokens):
            raise SyntaxFault(self.lines, 0)
        token = self.tokens[self.taken]
        raise SyntaxFault(token.line, token.column)

    def take(self, kind):
        """Return the next token, which must be of this kind."""
        if self.ahead() != kind:
            self.refuse()
        token = self.tokens[self.taken]
        self.taken += 1
        return token

    def take_names(self):
        """Return the tokens of one name or more."""
        names = [self.take("name")]
        while self.ahead() == "name":
            names.append(self.take("name"))
        return names

    def take_statement(self, word):
        """Return the next statement, which must begin with this keyword."""
        statement = Statement(self.take(word))
        for part in FORMS[word]:
            if part == "names":
                statement.names.extend(self.take_names())
            elif part == "name":
                statement.names.append(self.take("name"))
            elif part == "number":
                statement.numbers.append(self.take("number"))
            else:
                self.take(part)
        self.take(";")
        return statement


def parse_plan(plan):
    """Return the list of the statements of a plan; raise SyntaxFault."""
    parser = Parser(plan)
    statements = []
    for word in HEAD:
        statements.append(parser.take_statement(word))
    while parser.ahead() is not None:
        word = parser.ahead()
        if word in HEAD or word not in FORMS:
            parser.refuse()
        statements.append(parser.take_statement(word))
    return statements
