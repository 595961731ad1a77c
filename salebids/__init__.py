"""Salebids: rules of a sale that go by order alone."""
