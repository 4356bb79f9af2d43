"""Curvebells: bells of things that move along curves, in their exact order."""
