"""Tables of groups, questions and indexes as texts."""
