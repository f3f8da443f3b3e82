package shell

// What a line needs: a heap, a vault, a name that stands for anything; or one that stands for a thing of that kind.
const (
	nothing  = ""
	aHeap    = "heap"
	aVault   = "vault"
	anything = "name"
	anImage  = "image"
	aTable   = "table"
	anArena  = "arena"
	aStore   = "objects"
)

// command is what a word at a line's beginning asks for. Its form is what stands behind that word.
type command struct {
	need, form string
	do         func(*session, fields) error
}

// commands tells those of all lines but chapter 12's, by their words.
func commands() map[string]command {
	return map[string]command{
		"heap":      {nothing, "N N N", (*session).newHeap},
		"live":      {aHeap, "", (*session).live},
		"pages":     {aHeap, "", (*session).pages},
		"sizes":     {aHeap, "", (*session).sizes},
		"freelists": {aHeap, "", (*session).freeLists},
		"waste":     {aHeap, "N", (*session).waste},
		"stuck":     {aHeap, "N !", (*session).stuck},
		"nofit":     {aHeap, "N", (*session).noFit},

		"save":    {aHeap, "NAME", (*session).save},
		"restore": {anImage, "NAME", (*session).restore},
		"check":   {anImage, "NAME", (*session).check},
		"drop":    {anything, "NAME", (*session).drop},
		"names":   {nothing, "", (*session).allNames},
		"clear":   {nothing, "", (*session).clearNames},

		"table": {aHeap, "NAME !", (*session).newTable},
		"set":   {aTable, "NAME HEX HEX !", (*session).set},
		"get":   {aTable, "NAME HEX", (*session).get},
		"del":   {aTable, "NAME HEX", (*session).del},
		"keys":  {aTable, "NAME", (*session).keys},

		"arena":   {aHeap, "NAME N", (*session).newArena},
		"take":    {anArena, "NAME N N !", (*session).take},
		"mark":    {anArena, "NAME", (*session).mark},
		"release": {anArena, "NAME N", (*session).release},

		"objects": {aHeap, "NAME", (*session).newStore},
		"make":    {aStore, "NAME N N !", (*session).makeObject},
		"put":     {aStore, "NAME ADDRESS N ADDRESS", (*session).put},
		"word":    {aStore, "NAME ADDRESS N", (*session).word},
		"root":    {aStore, "NAME NAME ADDRESS", (*session).root},
		"unroot":  {aStore, "NAME NAME", (*session).unroot},
		"collect": {aStore, "NAME", (*session).collect},

		"vault":   {nothing, "N N N", (*session).newVault},
		"vmalloc": {aVault, "N !", (*session).vaultMalloc},
		"vfree":   {aVault, "N", (*session).vaultFree},
		"pin":     {aVault, "N", (*session).pin},
		"unpin":   {aVault, "N", (*session).unpin},
		"compact": {aVault, "", (*session).compact},
		"vwrite":  {aVault, "N N HEX", (*session).vaultWrite},
		"vread":   {aVault, "N N N", (*session).vaultRead},
		"vstats":  {aVault, "", (*session).vaultStats},
	}
}
