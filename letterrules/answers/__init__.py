"""Answers to rules, and rules that follow from others."""
