"""Cordbook: drawn cords that cross, the moves that leave them what they are, and what no move can turn."""
