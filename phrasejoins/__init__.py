"""phrasejoins: which phrases "and" can join, by the free group of types."""
