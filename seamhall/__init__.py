"""Seamhall: pictures narrowed by least seams."""
