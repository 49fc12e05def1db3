"""Texts of plain values, circuits and runs."""
