"""Nestwright: polynomials of one letter, with fractions, put into one another."""
