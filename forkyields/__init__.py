"""Forkyields: what one fork can bring its parent, and who takes it."""
