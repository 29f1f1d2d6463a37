"""Tests of heardapart."""
