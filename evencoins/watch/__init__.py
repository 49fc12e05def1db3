"""Numbers that are kept for long, among foes that move."""
