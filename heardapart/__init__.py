"""Heardapart: words shouted over a web, written down in unlike orders."""
