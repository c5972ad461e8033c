"""Kinds of texts, and what deeds make of them."""
