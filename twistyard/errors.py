"""Nothing is refused, so there is no error here."""
