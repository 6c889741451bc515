"""Likespite: folk who settle by liking and by spite."""
