"""Halls, letters, and houses that talk in rounds."""
