"""Onlyasked: what rules over facts settle, and what is worth asking next."""
