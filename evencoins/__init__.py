"""Evencoins: computing among houses that look and lie."""
