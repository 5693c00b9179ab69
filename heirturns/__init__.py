"""Two heirs who take things by turns, whatever they like."""
