"""Firsttouch: imports put off to the first touch of a name."""
