"""Ringshares: keys on a ring of marks, kept while hosts join and leave."""
