"""Tinkerhall: manuals of repair judged for all worlds that the news leaves."""
