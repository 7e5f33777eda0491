"""Digmatrix: a dig told by its layers."""
