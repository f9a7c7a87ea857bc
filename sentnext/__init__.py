"""Asking for the one that heads, by being sent on."""
