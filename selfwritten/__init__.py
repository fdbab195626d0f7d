"""Selfwritten: translators made from any two books of instructions."""
