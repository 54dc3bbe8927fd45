"""Tokenwall: nets of tokens, and what can never come of them."""
