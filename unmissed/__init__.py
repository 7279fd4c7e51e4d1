"""Unmissed: may a door be taken away because nobody was heard at it?"""
