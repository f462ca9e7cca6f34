/- Proved here: a list of tries in memory, as the law's walk wants it: by number. -/
import Derived.Test.YtcfjhbcpjpgodaaDoorJ16
import Derived.Test.YtcfjhbcpjpgodaaDoorJ2
namespace Go.Proofs.YtcfjhbcpjpgodaaDoor
open Go.RowKit

/-- A try, with where its two lists lie and what they hold. -/
structure TryV where
  block : ByteArray
  who : Int
  round : Int
  op : Option Addr
  on : Nat
  oc : Nat
  ms : Nat → MsgV
  rp : Option Addr
  rn : Nat
  rc : Nat
  raw : Nat → ByteArray
  uns : Bool
  ht : Int
  pc : Int
  ano : ByteArray

def TryV.cells (t : TryV) : Array Value := #[.string t.block, .int .i64 t.who, .int .i64 t.round, .slice t.op t.on t.oc, .slice t.rp t.rn t.rc, .bool t.uns, .int .i64 t.ht, .int .i64 t.pc, .string t.ano]
def try0 : TryV := ⟨ByteArray.empty, 0, 0, none, 0, 0, fun _ => msg0, none, 0, 0, fun _ => ByteArray.empty, false, 0, 0, ByteArray.empty⟩

/-- What a try leads to, in blocks below B. -/
structure TryOk (w : World) (B : Nat) (t : TryV) : Prop where
  msgs : MsgsAt w B t.op t.on t.ms
  msz : ∀ i, i < t.on → (t.ms i).s.size ≤ maxLen ∧ (t.ms i).v ≤ 9223372036854775807 ∧ -9223372036854775808 ≤ (t.ms i).v
  rnil : t.rp = none → t.rn = 0 ∧ t.rc = 0
  raws : Lies w B t.rp t.rn (fun i => .string (t.raw i))
  rsz : ∀ i, i < t.rn → (t.raw i).size ≤ maxLen
  onb : t.on ≤ 1048576
  rnb : t.rn ≤ 1048576
  bsz : t.block.size ≤ 1048576
  pcb : -9223372036854775808 ≤ t.pc ∧ t.pc ≤ 9223372036854775807

def TriesAt (w : World) (B : Nat) (p : Option Addr) (n : Nat) (ts : Nat → TryV) : Prop := ∀ i, i < n → ∃ b o, p = some ⟨b, o, none⟩ ∧ b < B ∧ w.rangeAt b (o + i * 9) (ts i).cells.toList

theorem TriesAt.below {w w' : World} {B : Nat} {p : Option Addr} {n : Nat} {ts : Nat → TryV} (h : TriesAt w B p n ts) (hb : Below B w w') : TriesAt w' B p n ts := fun i hi => by
  obtain ⟨b, o, e, hB, hr⟩ := h i hi
  exact ⟨b, o, e, hB, fun j v hv => (hb.cell (p := ⟨b, o + i * 9 + j, none⟩) (by exact hB)).trans (hr j v hv)⟩
theorem TryOk.below {w w' : World} {B : Nat} {t : TryV} (h : TryOk w B t) (hb : Below B w w') : TryOk w' B t :=
  ⟨h.msgs.below hb, h.msz, h.rnil, h.raws.below hb, h.rsz, h.onb, h.rnb, h.bsz, h.pcb⟩

section
variable {P : Program} (w : World)
/-- A list of texts, nil or not, whatever address it bears when it is empty, appended. -/
theorem wpList_append_texts0 {ops : Array Oper} {rest : List Oper} {o : Oper} {a : Act} {Q : Exit → Act → World → Prop} (hgd : o.guard = none) (s x : Operand) (t : TypeId)
    (ho : o.op = .call { callee := .builtin .append, args := #[s, x], argTypes := #[t, t] })
    (base : Nat) (e : TypeId) (i : TypeInfo) (z : Value) (bytes : Nat) (ht : P.underlying t = some (.slice e)) (hi : P.info? e = some i) (hz : i.zero = some z)
    (hsize : i.size = 1) (hby : i.bytes = bytes) (hzs : z.cells.size = 1)
    (v : Value) (n : Nat) (xs : List Value) (hs : a.eval s = v) (hown : w.ownsRow base e 1 v n xs)
    (p : Option Addr) (m c : Nat) (fr : Nat → ByteArray) (hx : a.eval x = .slice p m c) (hp : p = none → m = 0 ∧ c = 0) (hl : Lies w w.heap.size p m (fun i => .string (fr i)))
    (h63 : n + m ≤ maxLen) (hbytes : (n + m) * bytes ≤ 140737488355328) (hbase : base ≤ w.heap.size)
    (h : ∀ v' w', w'.ownsRow base e 1 v' (n + m) (xs ++ (List.range m).map fun i => .string (fr i)) → w.grownBy w' v.ownBlock → (v'.ownBlock = v.ownBlock ∨ v'.ownBlock = some w.heap.size) → wpList P ops Q rest (a.put o.dst v') w') : wpList P ops Q (o :: rest) a w := by
  cases p with
  | none =>
    obtain ⟨rfl, rfl⟩ := hp rfl
    exact wpList_append_texts w hgd s x t ho base e i z bytes ht hi hz hsize hby hzs v n xs hs hown none 0 0 fr hx (Or.inl ⟨rfl, rfl, rfl⟩) hl h63 hbytes hbase h
  | some ad =>
    refine wpList_append_at w hgd s x t ho base e i z 1 bytes ht hi hz hsize hby hzs (by decide) v n xs hs hown ad m c ((List.range m).map fun i => .string (fr i)) hx (by simp) (fun j u hj => ?_) (fun u hu => ?_) h63 hbytes hbase h
    · have hjm : j < m := by have := (List.getElem?_eq_some_iff.1 hj).1; simpa using this
      obtain ⟨b', o', e', _, hc⟩ := hl j hjm
      cases e'
      have e2 : ((List.range m).map fun i => Value.string (fr i))[j]? = some (.string (fr j)) := by simp [hjm]
      rw [e2] at hj
      cases hj
      rw [addr_add]
      exact hc
    · simp only [List.mem_map] at hu
      obtain ⟨i, _, rfl⟩ := hu
      rfl
end

end Go.Proofs.YtcfjhbcpjpgodaaDoor
