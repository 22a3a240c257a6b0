"""Wiresindark: what boards of dots with dead wires surely tell."""
