"""Rising shelves of numbers: where they meet, how they are looked at and squeezed; and the best on many lists."""
