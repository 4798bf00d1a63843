"""Bellbook: a bourse whose facts can be gone through again."""
