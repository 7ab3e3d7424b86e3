"""Prefixgraft: parts of documents whose names have prefixes, the same wherever they are put."""
