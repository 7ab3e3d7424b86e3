"""PARTs as strings, and back."""

from prefixgraft.cursor import Cursor
from prefixgraft.errors import BadText
from prefixgraft.parts import ADDRESS_SIGNS, PLAIN_SIGNS, RESERVED, is_element, need_part


def written(part):
    """The written form of a PART."""
    need_part(part)
    return _element_form(part)


def size_of(part):
    """How many characters the written form of a PART has."""
    return len(written(part))


def read_part(string):
    """The PART with this written form."""
    if not isinstance(string, str):
        raise BadText(None)
    cursor = Cursor(string)
    part = _read_element(cursor)
    cursor.need_end()
    return need_part(part)


def _element_form(element):
    """The written form of an ELEMENT."""
    _, name, declarations, attributes, children = element
    items = [_declaration_form(prefix, address) for prefix, address in declarations]
    items.extend([_attribute_form(one, worth) for one, worth in attributes])
    head = " ".join(["<" + _name_form(name)] + items)
    if not children:
        return head + "/>"
    return head + ">" + "".join([_child_form(child) for child in children]) + _end_form(name)


def _end_form(name):
    """What stands behind the CHILDREN in the written form of an ELEMENT with this NAME."""
    return "</" + _name_form(name) + ">"


def _name_form(name):
    """The written form of a NAME."""
    prefix, local = name
    return local if prefix == "" else prefix + ":" + local


def _declaration_form(prefix, address):
    """The written form of a DECLARATION."""
    declared = RESERVED if prefix == "" else RESERVED + ":" + prefix
    return declared + '="' + address + '"'


def _attribute_form(name, worth):
    """The written form of an ATTRIBUTE."""
    told = worth if isinstance(worth, str) else "@" + _name_form(worth)
    return _name_form(name) + '="' + told + '"'


def _child_form(child):
    """The written form of a child of an ELEMENT."""
    if isinstance(child, str):
        return child
    if is_element(child):
        return _element_form(child)
    return "{" + child[1] + "}"


def _read_element(cursor):
    """The ELEMENT whose written form comes next; it may be none by itself, where a form may tell more than one has."""
    cursor.take("<")
    name = _read_name(cursor)
    declarations, attributes = _read_items(cursor)
    children = ()
    if cursor.sees("/"):
        cursor.take("/>")
    else:
        cursor.take(">")
        children = _read_children(cursor)
        cursor.take(_end_form(name))
    return "element", name, declarations, attributes, children


def _read_name(cursor):
    """The NAME whose written form comes next."""
    first = _read_local(cursor)
    if not cursor.sees(":"):
        return "", first
    cursor.take(":")
    return first, _read_local(cursor)


def _read_local(cursor):
    """The LOCAL, or the PREFIX other than the DEFAULT, that comes next."""
    word = cursor.take_word()
    if word == RESERVED:
        cursor.refuse()
    return word


def _read_items(cursor):
    """The pair of the DECLARATIONS and the ATTRIBUTES of which the written forms come next."""
    declarations = []
    attributes = []
    while cursor.sees(" "):
        cursor.take(" ")
        # DECLARATIONS stand ahead of all ATTRIBUTES, and the NAMEs of these may begin with the same letters.
        if not attributes and (cursor.sees(RESERVED + "=") or cursor.sees(RESERVED + ":")):
            declarations.append(_read_declaration(cursor))
        else:
            attributes.append(_read_attribute(cursor))
    return tuple(declarations), tuple(attributes)


def _read_declaration(cursor):
    """The DECLARATION whose written form comes next."""
    cursor.take(RESERVED)
    prefix = ""
    if cursor.sees(":"):
        cursor.take(":")
        prefix = _read_local(cursor)
    cursor.take('="')
    address = cursor.take_signs(ADDRESS_SIGNS)
    cursor.take('"')
    return prefix, address


def _read_attribute(cursor):
    """The ATTRIBUTE whose written form comes next."""
    name = _read_name(cursor)
    cursor.take('="')
    if cursor.sees("@"):
        cursor.take("@")
        worth = _read_name(cursor)
    else:
        worth = cursor.take_signs(PLAIN_SIGNS)
    cursor.take('"')
    return name, worth


def _read_children(cursor):
    """The CHILDREN, one at least, of which the written forms come next, up to the end of what is around them."""
    children = [_read_child(cursor)]
    while not cursor.sees("</"):
        children.append(_read_child(cursor))
    return tuple(children)


def _read_child(cursor):
    """The child of an ELEMENT whose written form comes next."""
    if cursor.sees("<"):
        return _read_element(cursor)
    if cursor.sees("{"):
        cursor.take("{")
        hole = cursor.take_word()
        cursor.take("}")
        return "hole", hole
    text = cursor.take_signs(PLAIN_SIGNS)
    if text == "":
        cursor.refuse()
    return text
