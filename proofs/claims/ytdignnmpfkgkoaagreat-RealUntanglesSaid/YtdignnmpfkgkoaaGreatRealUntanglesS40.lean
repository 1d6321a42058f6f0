import Derived.Lib.SmallJoins
import Derived.Test.YtdignnmpfkgkoaaGreatRealUntanglesS24
namespace Go.Proofs.YtdignnmpfkgkoaaGreat
section
open Go.ChangeShapes Go.WideShapes Go.ChangeAt Go.RowKit Go.MapKept
set_option linter.unusedVariables false
set_option linter.unusedSimpArgs false
set_option maxRecDepth 100000
def keyV (x : Int × Int) : Value := .agg #[.int .i64 x.1, .int .i64 x.2]
theorem und_map : ∃ k e, Tryz.prog.underlying 170 = some (.map k e) ∧ k = 173 ∧ e = 128 := ⟨_, _, by kernel_rfl, rfl, rfl⟩
theorem key_check (e : Bool) (x : Int × Int) (w : World) : (Instr.checkKey e 10000 173 (keyV x)).run Tryz.prog w = .ok () w := by kernel_rfl
theorem fields_kind : (Tryz.prog.fieldsOf 173).toList.map (fun f => (f.name, f.type, f.offset)) = [("kernel", 3, 0), ("scale", 3, 1)] := by kernel_rfl
theorem key_equal (x y : Int × Int) (w : World) : (Op.equal 173 (keyV x) (keyV y)).run Tryz.prog w = .ok (x == y) w := by
 obtain ⟨a, b⟩ := x
 obtain ⟨c, d⟩ := y
 rw [show ((a, b) == (c, d)) = ((a == c) && (b == d)) from rfl]
 refine (run_equalIn_struct w 9999 173 #[.int .i64 a, .int .i64 b] #[.int .i64 c, .int .i64 d] (by kernel_rfl) (by kernel_rfl)).trans ?_
 have h := fields_kind
 generalize (Tryz.prog.fieldsOf 173).toList = L at h ⊢
 obtain ⟨f, g, rfl⟩ : ∃ f g, L = [f, g] := by
  rcases L with _ | ⟨f, _ | ⟨g, _ | ⟨h3, L⟩⟩⟩
  ·simp at h
  ·simp at h
  ·exact ⟨f, g, rfl⟩
  ·simp only [List.map_cons, List.cons.injEq, reduceCtorEq, and_false] at h
 simp only [List.map_cons, List.map_nil, List.cons.injEq, Prod.mk.injEq, and_true] at h
 obtain ⟨⟨n1, t1, o1⟩, n2, t2, o2⟩ := h
 have p1 : ∀ (u v : Value) (w : World), (part 3 #[u, v] 0).run Tryz.prog w = .ok u w := fun _ _ _ => by kernel_rfl
 have p2 : ∀ (u v : Value) (w : World), (part 3 #[u, v] 1).run Tryz.prog w = .ok v w := fun _ _ _ => by kernel_rfl
 have q : ∀ a b : Int, (Op.equalIn 9999 3 (.int .i64 a) (.int .i64 b)).run Tryz.prog w = .ok (a == b) w := fun a b => run_equalIn_int w 9998 _ .i64 .i64 a b (by kernel_rfl)
 have s1 : ("kernel" = "_") = False := by simp
 have s2 : ("scale" = "_") = False := by simp
 cases h1 : (a == c) <;> cases h2 : (b == d) <;> simp [Op.eqFields, n1, n2, t1, t2, o1, o2, p1, p2, q, h1, h2, s1, s2]
def MapHas (W : World) (B : Nat) (ps : List ((Int × Int) × Value)) : Prop := ∃ es clk, W.heap[B]? = some (.map es clk) ∧ es.toList.map (fun e => (e.key, e.val)) = ps.map (fun p => (keyV p.1, p.2))
theorem MapHas.gr {W W' : World} {B : Nat} {ps : List ((Int × Int) × Value)} (h : MapHas W B ps) (g : Gr W W') : MapHas W' B ps := by
 obtain ⟨es, clk, hb, he⟩ := h
 exact ⟨es, clk, (g.block (Array.getElem?_eq_some_iff.1 hb).1).trans hb, he⟩
theorem MapHas.lt {W : World} {B : Nat} {ps : List ((Int × Int) × Value)} (h : MapHas W B ps) : B < W.heap.size := by
 obtain ⟨es, clk, hb, he⟩ := h
 exact (Array.getElem?_eq_some_iff.1 hb).1
theorem find_asking (x : Int × Int) (w : World) : ∀ (l : List MapEntry) (ps : List ((Int × Int) × Value)) (i : Nat), l.map (fun e => (e.key, e.val)) = ps.map (fun p => (keyV p.1, p.2)) →
 ∃ r, (Instr.findAsking 173 (keyV x) l i).run Tryz.prog w = .ok r w ∧ r.map (·.2) = (ps.find? (fun p => x == p.1)).map (·.2) := by
 intro l
 induction l with
 | nil =>
   intro ps i h
   cases ps with
   | nil => exact ⟨none, rfl, rfl⟩
   | cons p ps => cases h
 | cons e l ih =>
   intro ps i h
   cases ps with
   | nil => cases h
   | cons p ps =>
     simp only [List.map_cons, List.cons.injEq, Prod.mk.injEq] at h
     obtain ⟨⟨hk, hv⟩, ht⟩ := h
     have he := key_equal x p.1 w
     rw [← hk] at he
     cases hx : (x == p.1)
     ·obtain ⟨r, hr, hm⟩ := ih ps (i + 1) ht
      refine ⟨r, ?_, ?_⟩
      ·simp [Instr.findAsking, he, hx, hr, Result.andThen]
      ·rw [hm, List.find?_cons, hx]
     ·refine ⟨some (i, e.val), ?_, ?_⟩
      ·simp [Instr.findAsking, he, hx, Result.andThen]
      ·rw [List.find?_cons, hx, hv]; rfl
theorem run_find (x : Int × Int) (w : World) (l : List MapEntry) (ps : List ((Int × Int) × Value)) (h : l.map (fun e => (e.key, e.val)) = ps.map (fun p => (keyV p.1, p.2))) :
 ∃ r, (Instr.findKey 173 (keyV x) l).run Tryz.prog w = .ok r w ∧ r.map (·.2) = (ps.find? (fun p => x == p.1)).map (·.2) := by
 cases l with
 | nil =>
   cases ps with
   | nil => exact ⟨none, by kernel_rfl, rfl⟩
   | cons p ps => cases h
 | cons e l =>
   obtain ⟨r, hr, hm⟩ := find_asking x w (e :: l) ps 0 h
   refine ⟨r, ?_, hm⟩
   rw [← hr]
   have hn : ∀ d, Tryz.prog.underlying 173 = some d → Instr.findNow d (keyV x) (e :: l) 0 = none := by
    intro d hd
    have hfs : Tryz.prog.underlying 173 = some (.struct (Tryz.prog.fieldsOf 173)) := by kernel_rfl
    rw [hfs] at hd
    cases hd
    simp [Instr.findNow, Instr.sameNow]
   have hd : Tryz.prog.underlying 173 = some (.struct (Tryz.prog.fieldsOf 173)) := by kernel_rfl
   simp [Instr.findKey, run_underlying hd, hn _ hd, Result.andThen]
theorem zero_rule (w : World) : (zeroValue 128).run Tryz.prog w = .ok (.agg #[.int .i64 0, .int .i64 0, .int .i64 0, .int .i64 0]) w := by kernel_rfl
def zeroR : Value := .agg #[.int .i64 0, .int .i64 0, .int .i64 0, .int .i64 0]
theorem run_lookup (x : Int × Int) (w : World) (B : Nat) (ps : List ((Int × Int) × Value)) (h : MapHas w B ps) (ok : Bool) :
 (Instr.lookup 170 (.map (some B)) (keyV x) ok).run Tryz.prog w =
  .ok (if ok = true then .tuple #[((ps.find? (fun p => x == p.1)).map (·.2)).getD zeroR, .bool (ps.find? (fun p => x == p.1)).isSome] else ((ps.find? (fun p => x == p.1)).map (·.2)).getD zeroR) w := by
 obtain ⟨es, clk, hb, he⟩ := h
 obtain ⟨r, hr, hm⟩ := run_find x w es.toList ps he
 obtain ⟨k, e, hu, rfl, rfl⟩ := und_map
 have hz := zero_rule w
 cases hf : ps.find? (fun p => x == p.1) with
 | none =>
   rw [hf] at hm
   cases r with
   | some r => cases hm
   | none => cases ok <;> simp [Instr.lookup, run_underlying hu, MapKept.run_getObj_map hb, key_check, hr, hz, Result.andThen, zeroR]
 | some p =>
   rw [hf] at hm
   cases r with
   | none => cases hm
   | some r =>
     simp only [Option.map_some, Option.some.injEq] at hm
     obtain ⟨i, v⟩ := r
     simp only at hm
     subst hm
     cases ok <;> simp [Instr.lookup, run_underlying hu, MapKept.run_getObj_map hb, key_check, hr, Result.andThen]
theorem run_insert (x : Int × Int) (v : Value) (w : World) (B : Nat) (ps : List ((Int × Int) × Value)) (h : MapHas w B ps) (hn : ps.find? (fun p => x == p.1) = none) :
 ∃ w', (Instr.mapUpdate 170 (.map (some B)) (keyV x) v).run Tryz.prog w = .ok () w' ∧ MapHas w' B (ps ++ [(x, v)]) ∧ ∀ u, Gr u w → u.heap.size ≤ B → Gr u w' := by
 obtain ⟨es, clk, hb, he⟩ := h
 obtain ⟨r, hr, hm⟩ := run_find x w es.toList ps he
 obtain ⟨k, e, hu, rfl, rfl⟩ := und_map
 rw [hn] at hm
 cases r with
 | some r => cases hm
 | none =>
   refine ⟨{ w with heap := w.heap.setIfInBounds B (.map (es.push ⟨keyV x, v, clk⟩) (clk + 1)) }, by simp [Instr.mapUpdate, run_underlying hu, MapKept.run_getObj_map hb, key_check, hr, MapKept.run_setObj_map _ hb, Result.andThen], ⟨_, _, (MapKept.heap_set hb).1, ?_⟩, ?_⟩
   ·simp [he]
   ·intro u g hB
    exact ⟨g.out.os, g.out.tape, g.out.output, by have := g.out.size; simpa using this, fun j hj => ((MapKept.heap_set hb).2 j (by omega)).trans (g.out.block j hj)⟩
def rulesN : List ((Int × Int) × (Int × Int × Int × Int)) := [((2, 0), (2, 224, 1, 1)), ((2, 1), (2, 224, 0, 2)), ((2, 2), (2, 608, 0, 0)), ((4, 0), (4, 288, 2, 2)), ((4, 1), (4, 288, 0, 3)), ((4, 2), (4, 1632, 0, 0))]
def ruleR (r : Int × Int × Int × Int) : Value := .agg #[.int .i64 r.1, .int .i64 r.2.1, .int .i64 r.2.2.1, .int .i64 r.2.2.2]
def entR (p : (Int × Int) × (Int × Int × Int × Int)) : (Int × Int) × Value := (p.1, ruleR p.2)
def rulesL : List ((Int × Int) × Value) := rulesN.map entR
def ruleOf (x : Int × Int) : Option (Int × Int × Int × Int) := (rulesN.find? (fun p => x == p.1)).map (·.2)
def RulesAt (W : World) (B : Nat) : Prop := ∃ ps, MapHas W B ps ∧ ∀ p, p ∈ ps ↔ p ∈ rulesL
theorem RulesAt.gr {W W' : World} {B : Nat} (h : RulesAt W B) (g : Gr W W') : RulesAt W' B := by
 obtain ⟨ps, hm, hp⟩ := h
 exact ⟨ps, hm.gr g, hp⟩
theorem RulesAt.lt {W : World} {B : Nat} (h : RulesAt W B) : B < W.heap.size := by
 obtain ⟨ps, hm, hp⟩ := h
 exact hm.lt
theorem rules_keys : ∀ p q, p ∈ rulesL → q ∈ rulesL → p.1 = q.1 → p = q := by
 intro p q hp hq h
 simp only [rulesL, rulesN, entR, List.map_cons, List.map_nil, List.mem_cons, List.not_mem_nil, or_false] at hp hq
 rcases hp with rfl | rfl | rfl | rfl | rfl | rfl <;> rcases hq with rfl | rfl | rfl | rfl | rfl | rfl <;> first | rfl | (simp at h)
theorem find_rules (ps : List ((Int × Int) × Value)) (h : ∀ p, p ∈ ps ↔ p ∈ rulesL) (x : Int × Int) : ps.find? (fun p => x == p.1) = rulesL.find? (fun p => x == p.1) := by
 cases hf : ps.find? (fun p => x == p.1) with
 | none =>
   rw [List.find?_eq_none] at hf
   symm
   rw [List.find?_eq_none]
   exact fun p hp => hf p ((h p).2 hp)
 | some p =>
   have hp := (h p).1 (List.mem_of_find?_eq_some hf)
   have hx := List.find?_some hf
   cases hg : rulesL.find? (fun p => x == p.1) with
   | none =>
     rw [List.find?_eq_none] at hg
     exact absurd hx (hg p hp)
   | some q =>
     have hq := List.mem_of_find?_eq_some hg
     have hy := List.find?_some hg
     simp only [beq_iff_eq] at hx hy
     rw [rules_keys p q hp hq (hx.symm.trans hy)]
theorem find_ruleOf (x : Int × Int) : rulesL.find? (fun p => x == p.1) = (rulesN.find? (fun p => x == p.1)).map entR := by
 unfold rulesL
 rw [List.find?_map]
 rfl
theorem RulesAt.look {W : World} {B : Nat} (h : RulesAt W B) (k s : Int) (ok : Bool) :
 (Instr.lookup 170 (.map (some B)) (.agg #[.int .i64 k, .int .i64 s]) ok).run Tryz.prog W =
  .ok (if ok = true then .tuple #[((ruleOf (k, s)).map ruleR).getD zeroR, .bool (ruleOf (k, s)).isSome] else ((ruleOf (k, s)).map ruleR).getD zeroR) W := by
 obtain ⟨ps, hm, hp⟩ := h
 have := run_lookup (k, s) W B ps hm ok
 rw [find_rules ps hp, find_ruleOf] at this
 unfold ruleOf
 cases hf : rulesN.find? (fun p => (k, s) == p.1) with
 | none => rw [hf] at this; exact this
 | some p => rw [hf] at this; exact this
section
variable {ops : Array Oper} {Q : Exit → Act → World → Prop} {md : Region.Mode}
def listM (b0 b1 b2 b3 b4 b5 : Bool) : Array Bool := #[true, true, true, b0, true, true, b1, true, true, b2, true, true, b3, true, true, b4, true, true, b5, false, false]
def readyM (b0 b1 b2 b3 b4 b5 : Bool) : List Nat := (if b0 then [] else [3]) ++ ((if b1 then [] else [6]) ++ ((if b2 then [] else [9]) ++ ((if b3 then [] else [12]) ++ ((if b4 then [] else [15]) ++ ((if b5 then [] else [18]) ++ (if b0 && b1 && b2 && b3 && b4 && b5 then [19] else []))))))
def pickM (b0 b1 b2 b3 b4 b5 : Bool) : List ((Int × Int) × Value) := (if b0 then [entR ((2, 0), (2, 224, 1, 1))] else []) ++ ((if b1 then [entR ((2, 1), (2, 224, 0, 2))] else []) ++ ((if b2 then [entR ((2, 2), (2, 608, 0, 0))] else []) ++ ((if b3 then [entR ((4, 0), (4, 288, 2, 2))] else []) ++ ((if b4 then [entR ((4, 1), (4, 288, 0, 3))] else []) ++ (if b5 then [entR ((4, 2), (4, 1632, 0, 0))] else [])))))
def leftM (b0 b1 b2 b3 b4 b5 : Bool) : Nat := (if b0 then 0 else 1) + ((if b1 then 0 else 1) + ((if b2 then 0 else 1) + ((if b3 then 0 else 1) + ((if b4 then 0 else 1) + (if b5 then 0 else 1)))))
theorem mem_pickM (b0 b1 b2 b3 b4 b5 : Bool) (p : (Int × Int) × Value) : p ∈ pickM b0 b1 b2 b3 b4 b5 ↔ (b0 = true ∧ p = entR ((2, 0), (2, 224, 1, 1))) ∨ (b1 = true ∧ p = entR ((2, 1), (2, 224, 0, 2))) ∨ (b2 = true ∧ p = entR ((2, 2), (2, 608, 0, 0))) ∨ (b3 = true ∧ p = entR ((4, 0), (4, 288, 2, 2))) ∨ (b4 = true ∧ p = entR ((4, 1), (4, 288, 0, 3))) ∨ (b5 = true ∧ p = entR ((4, 2), (4, 1632, 0, 0))) := by
 have h : ∀ (b : Bool) (e : (Int × Int) × Value), p ∈ (if b then [e] else []) ↔ b = true ∧ p = e := by
  intro b e
  cases b <;> simp
 unfold pickM
 rw [List.mem_append, List.mem_append, List.mem_append, List.mem_append, List.mem_append, h, h, h, h, h, h]
def Lays (ops : Array Oper) (a : Act) (B : Nat) (i : Nat) (p : (Int × Int) × (Int × Int × Int × Int)) : Prop :=
 ∃ o, ops[i]? = some o ∧ Region.wanted o (yielded ops a.tmps) = true ∧ a.put o.dst undef = a ∧ execOp a.eval o = (do Instr.mapUpdate 170 (.map (some B)) (keyV p.1) (ruleR p.2); pure .skip)
theorem lays_step {a : Act} {B i : Nat} {p : (Int × Int) × (Int × Int × Int × Int)} {K : Act → World → Prop} {w : World} {ps : List ((Int × Int) × Value)} (h : Lays ops a B i p) (hm : MapHas w B ps) (hn : ∀ q ∈ ps, p.1 ≠ q.1)
 (hK : ∀ w', MapHas w' B (ps ++ [entR p]) → (∀ u, Gr u w → u.heap.size ≤ B → Gr u w') → K a w') : wpOp Tryz.prog ops Q i K a w := by
 obtain ⟨o, ho, hw, hp, hr⟩ := h
 obtain ⟨w', h1, h2, h3⟩ := run_insert p.1 (ruleR p.2) w B ps hm (by
  rw [List.find?_eq_none]
  intro q hq
  simpa using hn q hq)
 unfold wpOp
 rw [ho]
 simp only [hw, if_true]
 refine .inl ?_
 unfold Oper.wp
 rw [hr, Sem.run_bind, h1]
 show K (a.put o.dst undef) w'
 rw [hp]
 exact hK w' h2 h3
theorem none_M (b0 b1 b2 b3 b4 b5 : Bool) (n : Nat) (hn : leftM b0 b1 b2 b3 b4 b5 = n + 1) : readyM b0 b1 b2 b3 b4 b5 ≠ [] ∧ ∀ i ∈ readyM b0 b1 b2 b3 b4 b5, (b0 = false ∧ i = 3) ∨ (b1 = false ∧ i = 6) ∨ (b2 = false ∧ i = 9) ∨ (b3 = false ∧ i = 12) ∨ (b4 = false ∧ i = 15) ∨ (b5 = false ∧ i = 18) := by
 have key : ∀ b0 b1 b2 b3 b4 b5 : Bool, (leftM b0 b1 b2 b3 b4 b5 == 0 || (readyM b0 b1 b2 b3 b4 b5 != [] && (readyM b0 b1 b2 b3 b4 b5).all fun i => (!b0 && i == 3) || ((!b1 && i == 6) || ((!b2 && i == 9) || ((!b3 && i == 12) || ((!b4 && i == 15) || (!b5 && i == 18))))))) = true := by decide +kernel
 have h := key b0 b1 b2 b3 b4 b5
 rw [hn] at h
 simp only [Nat.add_eq_zero_iff, Nat.reduceEqDiff, and_false, beq_iff_eq, Bool.or_eq_true, Bool.and_eq_true, bne_iff_ne, List.all_eq_true, Bool.not_eq_true', false_or] at h
 exact h
theorem all_M (b0 b1 b2 b3 b4 b5 : Bool) (hn : leftM b0 b1 b2 b3 b4 b5 = 0) : b0 = true ∧ b1 = true ∧ b2 = true ∧ b3 = true ∧ b4 = true ∧ b5 = true := by
 revert b0 b1 b2 b3 b4 b5
 decide +kernel
theorem inserts_M {a : Act} {B : Nat} {u : World} {fuel : Nat} (hready : ∀ b0 b1 b2 b3 b4 b5, Region.ready md ops (listM b0 b1 b2 b3 b4 b5) = readyM b0 b1 b2 b3 b4 b5) (hB : u.heap.size ≤ B)
 (L0 : Lays ops a B 3 ((2, 0), (2, 224, 1, 1))) (L1 : Lays ops a B 6 ((2, 1), (2, 224, 0, 2))) (L2 : Lays ops a B 9 ((2, 2), (2, 608, 0, 0)))
 (L3 : Lays ops a B 12 ((4, 0), (4, 288, 2, 2))) (L4 : Lays ops a B 15 ((4, 1), (4, 288, 0, 3))) (L5 : Lays ops a B 18 ((4, 2), (4, 1632, 0, 0)))
 (hfin : ∀ w, RulesAt w B → Gr u w → wpAnyH Tryz.prog md ops Q (fun _ => True) fuel (listM true true true true true true) a w) :
 ∀ (n : Nat) (b0 b1 b2 b3 b4 b5 : Bool) (w : World) (ps : List ((Int × Int) × Value)), leftM b0 b1 b2 b3 b4 b5 = n → Gr u w → MapHas w B ps → (∀ p, p ∈ ps ↔ p ∈ pickM b0 b1 b2 b3 b4 b5) →
  wpAnyH Tryz.prog md ops Q (fun _ => True) (n + fuel) (listM b0 b1 b2 b3 b4 b5) a w := by
 intro n
 induction n with
 | zero =>
   intro b0 b1 b2 b3 b4 b5 w ps hn g hm hp
   have := all_M _ _ _ _ _ _ hn
   obtain ⟨rfl, rfl, rfl, rfl, rfl, rfl⟩ := this
   rw [Nat.zero_add]
   exact hfin w ⟨ps, hm, hp⟩ g
 | succ n ih =>
   intro b0 b1 b2 b3 b4 b5 w ps hn g hm hp
   rw [show n + 1 + fuel = (n + fuel) + 1 by omega]
   have hno := none_M _ _ _ _ _ _ _ hn
   refine ⟨fun h => absurd ((hready _ _ _ _ _ _).symm.trans h) hno.1, fun i hi => ?_⟩
   ·rw [hready] at hi
    have hc := hno.2 i hi
    clear hi
    clear hno
    rcases hc with ⟨rfl, rfl⟩ | ⟨rfl, rfl⟩ | ⟨rfl, rfl⟩ | ⟨rfl, rfl⟩ | ⟨rfl, rfl⟩ | ⟨rfl, rfl⟩
    ·refine lays_step L0 hm (fun q hq => ?_) (fun w' h1 h2 => ⟨trivial, ih true b1 b2 b3 b4 b5 w' _ ?_ (h2 u g hB) h1 (fun p => ?_)⟩)
     ·have hq := (mem_pickM _ _ _ _ _ _ q).1 ((hp q).1 hq)
      rcases hq with ⟨hb, rfl⟩ | ⟨hb, rfl⟩ | ⟨hb, rfl⟩ | ⟨hb, rfl⟩ | ⟨hb, rfl⟩ | ⟨hb, rfl⟩ <;> first | (exact absurd hb (by decide)) | (simp [entR]; done)
     ·simp only [leftM, if_true, Bool.false_eq_true, if_false] at hn ⊢
      omega
     ·rw [List.mem_append, hp p, mem_pickM, mem_pickM, List.mem_singleton]
      simp only [Bool.false_eq_true, false_and, false_or, true_and]
      grind
    ·refine lays_step L1 hm (fun q hq => ?_) (fun w' h1 h2 => ⟨trivial, ih b0 true b2 b3 b4 b5 w' _ ?_ (h2 u g hB) h1 (fun p => ?_)⟩)
     ·have hq := (mem_pickM _ _ _ _ _ _ q).1 ((hp q).1 hq)
      rcases hq with ⟨hb, rfl⟩ | ⟨hb, rfl⟩ | ⟨hb, rfl⟩ | ⟨hb, rfl⟩ | ⟨hb, rfl⟩ | ⟨hb, rfl⟩ <;> first | (exact absurd hb (by decide)) | (simp [entR]; done)
     ·simp only [leftM, if_true, Bool.false_eq_true, if_false] at hn ⊢
      omega
     ·rw [List.mem_append, hp p, mem_pickM, mem_pickM, List.mem_singleton]
      simp only [Bool.false_eq_true, false_and, false_or, true_and]
      grind
    ·refine lays_step L2 hm (fun q hq => ?_) (fun w' h1 h2 => ⟨trivial, ih b0 b1 true b3 b4 b5 w' _ ?_ (h2 u g hB) h1 (fun p => ?_)⟩)
     ·have hq := (mem_pickM _ _ _ _ _ _ q).1 ((hp q).1 hq)
      rcases hq with ⟨hb, rfl⟩ | ⟨hb, rfl⟩ | ⟨hb, rfl⟩ | ⟨hb, rfl⟩ | ⟨hb, rfl⟩ | ⟨hb, rfl⟩ <;> first | (exact absurd hb (by decide)) | (simp [entR]; done)
     ·simp only [leftM, if_true, Bool.false_eq_true, if_false] at hn ⊢
      omega
     ·rw [List.mem_append, hp p, mem_pickM, mem_pickM, List.mem_singleton]
      simp only [Bool.false_eq_true, false_and, false_or, true_and]
      grind
    ·refine lays_step L3 hm (fun q hq => ?_) (fun w' h1 h2 => ⟨trivial, ih b0 b1 b2 true b4 b5 w' _ ?_ (h2 u g hB) h1 (fun p => ?_)⟩)
     ·have hq := (mem_pickM _ _ _ _ _ _ q).1 ((hp q).1 hq)
      rcases hq with ⟨hb, rfl⟩ | ⟨hb, rfl⟩ | ⟨hb, rfl⟩ | ⟨hb, rfl⟩ | ⟨hb, rfl⟩ | ⟨hb, rfl⟩ <;> first | (exact absurd hb (by decide)) | (simp [entR]; done)
     ·simp only [leftM, if_true, Bool.false_eq_true, if_false] at hn ⊢
      omega
     ·rw [List.mem_append, hp p, mem_pickM, mem_pickM, List.mem_singleton]
      simp only [Bool.false_eq_true, false_and, false_or, true_and]
      grind
    ·refine lays_step L4 hm (fun q hq => ?_) (fun w' h1 h2 => ⟨trivial, ih b0 b1 b2 b3 true b5 w' _ ?_ (h2 u g hB) h1 (fun p => ?_)⟩)
     ·have hq := (mem_pickM _ _ _ _ _ _ q).1 ((hp q).1 hq)
      rcases hq with ⟨hb, rfl⟩ | ⟨hb, rfl⟩ | ⟨hb, rfl⟩ | ⟨hb, rfl⟩ | ⟨hb, rfl⟩ | ⟨hb, rfl⟩ <;> first | (exact absurd hb (by decide)) | (simp [entR]; done)
     ·simp only [leftM, if_true, Bool.false_eq_true, if_false] at hn ⊢
      omega
     ·rw [List.mem_append, hp p, mem_pickM, mem_pickM, List.mem_singleton]
      simp only [Bool.false_eq_true, false_and, false_or, true_and]
      grind
    ·refine lays_step L5 hm (fun q hq => ?_) (fun w' h1 h2 => ⟨trivial, ih b0 b1 b2 b3 b4 true w' _ ?_ (h2 u g hB) h1 (fun p => ?_)⟩)
     ·have hq := (mem_pickM _ _ _ _ _ _ q).1 ((hp q).1 hq)
      rcases hq with ⟨hb, rfl⟩ | ⟨hb, rfl⟩ | ⟨hb, rfl⟩ | ⟨hb, rfl⟩ | ⟨hb, rfl⟩ | ⟨hb, rfl⟩ <;> first | (exact absurd hb (by decide)) | (simp [entR]; done)
     ·simp only [leftM, if_true, Bool.false_eq_true, if_false] at hn ⊢
      omega
     ·rw [List.mem_append, hp p, mem_pickM, mem_pickM, List.mem_singleton]
      simp only [Bool.false_eq_true, false_and, false_or, true_and]
      grind
end
end
section
open Go.ChangeShapes Go.WideShapes Go.ChangeAt Go.RowKit Go.Joins
set_option linter.unusedVariables false
set_option linter.unusedSimpArgs false
set_option maxRecDepth 100000
theorem array6 {α : Type} {cs : Array α} (h : cs.size = 6) : ∃ c0 c1 c2 c3 c4 c5, cs = #[c0, c1, c2, c3, c4, c5] := by
 obtain ⟨l⟩ := cs
 match l, h with
 | [c0, c1, c2, c3, c4, c5], _ => exact ⟨c0, c1, c2, c3, c4, c5, rfl⟩
theorem cellsPlan : Tryz.prog.cellsOf 24 = 6 := by kernel_rfl
theorem plan_open {H : Type} {enc : TypeId × Value → H} {W : World} {r : Reach} {b0 : Nat} {v : Value} {d : DataW H} {p : List MemPlace} (hv : Value.okWide Tryz.prog W r b0 24 v) (h : DataW.Trod enc Tryz.prog W 0 (fun _ => true) true 24 v d p) :
 ∃ (fo lo ke sc mo : Int) (iv : Bool), v = .agg #[.int .i64 fo, .int .i64 lo, .int .i64 ke, .int .i64 sc, .int .i64 mo, .bool iv] ∧ p = [] ∧
  (∀ (W' : World) (sp : Nat → Bool), DataW.Trod enc Tryz.prog W' 0 sp true 24 v d []) ∧ ((Lit.int .i64 fo).wf = true ∧ (Lit.int .i64 lo).wf = true ∧ (Lit.int .i64 ke).wf = true ∧ (Lit.int .i64 sc).wf = true ∧ (Lit.int .i64 mo).wf = true) := by
 obtain ⟨cs, rfl, hsz⟩ := okWide_struct Tryz.underlying24 hv
 obtain ⟨c0, c1, c2, c3, c4, c5, rfl⟩ := array6 (hsz.trans cellsPlan)
 obtain ⟨fuel, hf⟩ := h
 obtain ⟨xs, n, _, hx, hl, hlen, hf⟩ := DataW.trod_struct Tryz.underlying24 hf
 have k : Tryz.prog.cellsOf 3 = 1 := by kernel_rfl
 have kb : Tryz.prog.cellsOf 4 = 1 := by kernel_rfl
 match xs, hlen with
 | [y0, y1, y2, y3, y4, y5], _ =>
   have h0 := hf 0 _ rfl
   have h1 := hf 1 _ rfl
   have h2 := hf 2 _ rfl
   have h3 := hf 3 _ rfl
   have h4 := hf 4 _ rfl
   have h5 := hf 5 _ rfl
   simp [k, kb, Value.cells] at h0 h1 h2 h3 h4 h5
   obtain ⟨x0, e0, rfl, w0⟩ := DataW.trod_int Tryz.underlying3 h0
   obtain ⟨x1, e1, rfl, w1⟩ := DataW.trod_int Tryz.underlying3 h1
   obtain ⟨x2, e2, rfl, w2⟩ := DataW.trod_int Tryz.underlying3 h2
   obtain ⟨x3, e3, rfl, w3⟩ := DataW.trod_int Tryz.underlying3 h3
   obtain ⟨x4, e4, rfl, w4⟩ := DataW.trod_int Tryz.underlying3 h4
   obtain ⟨x5, e5, rfl⟩ := DataW.trod_bool Tryz.underlying4 h5
   simp at e0 e1 e2 e3 e4 e5
   subst e0 e1 e2 e3 e4 e5
   simp only [Prod.mk.injEq] at hx
   obtain ⟨rfl, hp⟩ := hx
   refine ⟨x0, x1, x2, x3, x4, x5, rfl, by simpa using hp, fun W' sp => ⟨2, ?_⟩, w0, w1, w2, w3, w4⟩
   have := trod_struct_mk (enc := enc) (w := W') (base := 0) (spare := sp) (held := true) (n := 1) (cs := [.int .i64 x0, .int .i64 x1, .int .i64 x2, .int .i64 x3, .int .i64 x4, .bool x5]) (xs := [(.lit (.int .i64 x0), []), (.lit (.int .i64 x1), []), (.lit (.int .i64 x2), []), (.lit (.int .i64 x3), []), (.lit (.int .i64 x4), []), (.lit (.bool x5), [])]) Tryz.underlying24 (by simp [cellsPlan])
    (by simp [k, kb, DataW.trod, Tryz.underlying3, Tryz.underlying4, w0, w1, w2, w3, w4])
   simpa [Value.cells] using this
end
section
open Go.ChangeShapes Go.WideShapes Go.ChangeAt Go.RowKit
set_option linter.unusedVariables false
set_option linter.unusedSimpArgs false
set_option maxRecDepth 100000
theorem MapHas.made (w : World) : MapHas (w.alloc (.map #[] 0)) w.heap.size [] := ⟨#[], 0, (MapKept.heap_alloc w _).1, rfl⟩
theorem wpAnyH_as {P : Program} {ops : Array Oper} {Q : Exit → Act → World → Prop} {md : Region.Mode} {S : World → Prop} {n n' : Nat} {l l' : Array Bool} {a : Act} {w : World} (hn : n = n') (hl : l = l') (h : wpAnyH P md ops Q S n' l' a w) : wpAnyH P md ops Q S n l a w := by
 subst hn
 subst hl
 exact h
set_option maxHeartbeats 2000000 in
theorem rules_c (w : World) : Calls Tryz.prog 143 #[] w fun e w' => ∃ B, e = .returned (.map (some B)) ∧ RulesAt w' B ∧ Gr w w' := by
 have hmm := @run_makeMap Tryz.prog
 go_enter Tryz.func143, Tryz.ntmps143
 go_wp2_with fail
 refine wp_region_held_drew (S := fun _ => True) rfl trivial (fun hS => ?_)
 refine hT 1 ?_
 refine hT 2 ?_
 refine hT 4 ?_
 refine hT 5 ?_
 refine hT 7 ?_
 refine hT 8 ?_
 refine hT 10 ?_
 refine hT 11 ?_
 refine hT 13 ?_
 refine hT 14 ?_
 refine hT 16 ?_
 refine hT 17 ?_
 refine hR 0 fun K hK => ?_
 go_simp
 refine hK.out _ _ ?_ (fun hHeld => ?_)
 ·trivial
 clear hK K
 try simp only [Act.put, putS]
 refine wpAnyH_as (n' := 6 + 2) (l' := listM false false false false false false) (by kernel_rfl) (by kernel_rfl) ?_
 refine inserts_M (B := w.heap.size) (u := w) ?_ (Nat.le_refl _) ⟨_, rfl, by rfl, rfl, rfl⟩ ⟨_, rfl, by rfl, rfl, rfl⟩ ⟨_, rfl, by rfl, rfl, rfl⟩ ⟨_, rfl, by rfl, rfl, rfl⟩ ⟨_, rfl, by rfl, rfl, rfl⟩ ⟨_, rfl, by rfl, rfl, rfl⟩ ?_ 6 _ _ _ _ _ _ _ [] rfl ((Gr.refl w).allocO _).drew (MapHas.made w) ?_
 ·decide +kernel
 ·intro w1 hR g1
  refine hT 19 ?_
  refine hT 20 ?_
  refine wpAnyH_done (by kernel_rfl) ?_ _
  clear hmm hS
  go_wp2_with fail
  go_ret
  exact ⟨_, rfl, hR, g1⟩
 ·intro p
  simp [pickM]
theorem shiftedUp_c (x s : Int) (x0 : 0 ≤ x) (x1 : x ≤ 17592186044416) (s0 : 0 ≤ s) (s3 : s ≤ 3) (w : World) : Calls Tryz.prog 144 #[.int .i64 x, .int .i64 s] w fun e w' => e = .returned (.int .i64 (upB x s.toNat)) ∧ w' = w := by
 have hs : s = 0 ∨ s = 1 ∨ s = 2 ∨ s = 3 := by omega
 rcases hs with rfl | rfl | rfl | rfl
 ·go_enter Tryz.func144, Tryz.ntmps144
  go_wp2_with fail
  go_ret
  refine ⟨congrArg (fun z => Ending.returned (.int .i64 z)) ?_, rfl⟩
  unfold upB
  simp
 ·go_enter Tryz.func144, Tryz.ntmps144
  go_wp2_with fail
  go_ret
  refine ⟨congrArg (fun z => Ending.returned (.int .i64 z)) ?_, rfl⟩
  unfold upB
  simp
  omega
 ·go_enter Tryz.func144, Tryz.ntmps144
  go_wp2_with fail
  go_ret
  refine ⟨congrArg (fun z => Ending.returned (.int .i64 z)) ?_, rfl⟩
  unfold upB
  simp
  omega
 ·go_enter Tryz.func144, Tryz.ntmps144
  go_wp2_with fail
  go_ret
  refine ⟨congrArg (fun z => Ending.returned (.int .i64 z)) ?_, rfl⟩
  unfold upB
  simp
  omega
theorem atFirst_c (fo lo ke sc mo : Int) (iv : Bool) (w : World) : Calls Tryz.prog 101 #[.agg #[.int .i64 fo, .int .i64 lo, .int .i64 ke, .int .i64 sc, .int .i64 mo, .bool iv]] w fun e' w' => e' = .returned (.int .i64 (startB sc)) ∧ Gr w w' := by
 by_cases h : sc = 0
 ·subst h
  go_enter Tryz.func101, Tryz.ntmps101
  go_wp2_with fail
  go_ret
  exact ⟨rfl, (Gr.refl w).alloc _ _⟩
 ·have hs : startB sc = 0 := if_neg h
  rw [hs]
  go_enter Tryz.func101, Tryz.ntmps101
  go_wp2_with fail
  go_ret
  exact ⟨rfl, (Gr.refl w).alloc _ _⟩
set_option maxHeartbeats 1000000 in
theorem behind_g (t a l m e s q : Int) (b : Int) (hq : b = q + a) (q0 : 0 ≤ q) (q1 : q ≤ 17592186044416) (t0 : 0 ≤ t) (t4 : t ≤ 4) (a0 : 0 ≤ a) (a1 : a ≤ 2000) (te : Int) (hte : t * e = te) (e0 : 0 ≤ te) (e1 : te ≤ 17592186044416) (s' : Int) (hs : s' = if m = 0 then 0 else s)
 (H : Hid (∀ W, Calls Tryz.prog 144 #[.int .i64 te, .int .i64 s'] W fun e w' => e = .returned (.int .i64 q) ∧ w' = W)) (w : World) :
 Calls Tryz.prog 102 #[.agg #[.int .i64 t, .int .i64 a, .int .i64 l, .int .i64 m], .int .i64 e, .int .i64 s] w fun e' w' => e' = .returned (.int .i64 b) ∧ Gr w w' := by
 have hw : wrap64 (t * e) = te := by rw [hte]; exact IntWalk.wrap64_in _ (by omega)
 have hw' : IntKind.i64.wrap (t * e) = te := by rw [hte]; exact IntWalk.i64_in _ (by omega)
 have hw2 : IntKind.i64.wrap (q + a) = b := by rw [hq]; exact IntWalk.i64_in _ (by omega)
 clear hte e0 e1 t0 t4 q0 q1 hq
 by_cases hm : m = 0
 ·subst hm
  rw [if_pos rfl] at hs
  subst hs
  go_enter Tryz.func102, Tryz.ntmps102
  go_wp2_with fail
  obtain ⟨u, hu⟩ : ∃ uu, uu = w.alloc (.cells #[.int .i64 t, .int .i64 a, .int .i64 l, .int .i64 0] 128) := ⟨_, rfl⟩
  have R0 : CellsAt u w.heap.size 128 #[.int .i64 t, .int .i64 a, .int .i64 l, .int .i64 0] := by rw [hu]; exact CellsAt.new w 128 _
  have gu : Gr w u := by rw [hu]; exact (Gr.refl w).alloc _ _
  rw [← hu]
  clear hu
  have KS : ∀ W, Gr u W → W.cell? ⟨w.heap.size, 0, none⟩ = some (.int .i64 t) ∧ W.cell? ⟨w.heap.size, 1, none⟩ = some (.int .i64 a) := fun W hG => ⟨(R0.gr hG).cell 0, (R0.gr hG).cell 1⟩
  have hclG := gr_closed u
  try simp only [List.append_eq, List.cons_append, List.nil_append]
  refine wp_region_grow (S := Gr u) rfl (Gr.drew (Gr.refl _)) ?_
  refine gK 0 hclG KS ?_
  refine gK 1 hclG KS ?_
  refine gK 2 hclG KS ?_
  refine gK 3 hclG KS ?_
  refine gK 4 hclG KS ?_
  refine wpG_call (i := 5) hclG rfl (by kernel_rfl) (by kernel_rfl) (by kernel_rfl) (fun _ _ _ h => h) (fun W hS => calls_gr (H.out W)) (by rfl) ?_ ?_
  ·(intro w' hSw; go_simp; try with_reducible rfl)
  try simp only [Act.put, putS]
  refine gK 6 hclG KS ?_
  refine gK 7 hclG KS ?_
  refine gK 8 hclG KS ?_
  refine gK 9 hclG KS ?_
  refine wpG_done (by kernel_rfl) (fun w1 g1 => ?_) _
  replace g1 := (Gr.drew (Gr.refl u)).trans g1
  clear hclG KS
  go_wp2_with fail
  go_ret
  exact ⟨rfl, gu.trans g1⟩
 ·rw [if_neg hm] at hs
  subst hs
  have hm2 : (m == 0) = false := by simp [hm]
  go_enter Tryz.func102, Tryz.ntmps102
  go_wp2_with fail
  obtain ⟨u, hu⟩ : ∃ uu, uu = w.alloc (.cells #[.int .i64 t, .int .i64 a, .int .i64 l, .int .i64 m] 128) := ⟨_, rfl⟩
  have R0 : CellsAt u w.heap.size 128 #[.int .i64 t, .int .i64 a, .int .i64 l, .int .i64 m] := by rw [hu]; exact CellsAt.new w 128 _
  have gu : Gr w u := by rw [hu]; exact (Gr.refl w).alloc _ _
  rw [← hu]
  clear hu
  have KS : ∀ W, Gr u W → W.cell? ⟨w.heap.size, 0, none⟩ = some (.int .i64 t) ∧ W.cell? ⟨w.heap.size, 1, none⟩ = some (.int .i64 a) := fun W hG => ⟨(R0.gr hG).cell 0, (R0.gr hG).cell 1⟩
  have hclG := gr_closed u
  try simp only [List.append_eq, List.cons_append, List.nil_append]
  refine wp_region_grow (S := Gr u) rfl (Gr.drew (Gr.refl _)) ?_
  refine gK 0 hclG KS ?_
  refine gK 1 hclG KS ?_
  refine gK 2 hclG KS ?_
  refine gK 3 hclG KS ?_
  refine gK 4 hclG KS ?_
  refine wpG_call (i := 5) hclG rfl (by kernel_rfl) (by kernel_rfl) (by kernel_rfl) (fun _ _ _ h => h) (fun W hS => calls_gr (H.out W)) (by rfl) ?_ ?_
  ·(intro w' hSw; go_simp; try with_reducible rfl)
  try simp only [Act.put, putS]
  refine gK 6 hclG KS ?_
  refine gK 7 hclG KS ?_
  refine gK 8 hclG KS ?_
  refine gK 9 hclG KS ?_
  refine wpG_done (by kernel_rfl) (fun w1 g1 => ?_) _
  replace g1 := (Gr.drew (Gr.refl u)).trans g1
  clear hclG KS
  go_wp2_with fail
  go_ret
  exact ⟨rfl, gu.trans g1⟩
def ruleT (k sc : Int) : Int × Int × Int × Int := (k, if sc = 2 then (if k = 2 then 608 else 1632) else baseB k, if sc = 1 then 0 else topB sc k, topB sc k)
theorem ruleOf_yes (k sc : Int) (hk : k = 2 ∨ k = 4) (h0 : 0 ≤ sc) (h2 : sc ≤ 2) : ruleOf (k, sc) = some (ruleT k sc) := by
 have hs : sc = 0 ∨ sc = 1 ∨ sc = 2 := by omega
 rcases hk with rfl | rfl <;> rcases hs with rfl | rfl | rfl <;> decide +kernel
theorem topB_none (sc k : Int) (hk : k = 2 ∨ k = 4) (h0 : 0 ≤ sc) (h2 : sc ≤ 2) : topB sc k = 0 ↔ sc = 2 := by
 have hs : sc = 0 ∨ sc = 1 ∨ sc = 2 := by omega
 rcases hk with rfl | rfl <;> rcases hs with rfl | rfl | rfl <;> decide +kernel
theorem behind_c (k sc e s : Int) (h : mayB e k sc s = true) (w : World) :
 Calls Tryz.prog 102 #[ruleR (ruleT k sc), .int .i64 e, .int .i64 s] w fun e' w' => e' = .returned (.int .i64 (stepB e k sc s)) ∧ Gr w w' := by
 obtain ⟨⟨e0, e1⟩, hk, ⟨h0, h2⟩, s0, s3⟩ := mayB_iff.1 h
 obtain ⟨s', hs⟩ : ∃ s', s' = if topB sc k = 0 then 0 else s := ⟨_, rfl⟩
 have hs' : 0 ≤ s' ∧ s' ≤ 3 := by rw [hs]; split <;> omega
 have hk' : 2 ≤ k ∧ k ≤ 4 := by omega
 obtain ⟨te, hte⟩ : ∃ te, k * e = te := ⟨_, rfl⟩
 have ht : 0 ≤ te ∧ te ≤ 4398046511104 := by rcases hk with rfl | rfl <;> omega
 have hp := upB_pos te s'.toNat ht.1 (by omega)
 have hb : 0 ≤ (ruleT k sc).2.1 ∧ (ruleT k sc).2.1 ≤ 2000 := by
  simp only [ruleT, baseB]
  repeat' split
  all_goals omega
 refine behind_g k _ _ _ e s (upB te s'.toNat) (stepB e k sc s) ?_ hp.1 (by omega) (by omega) (by omega) hb.1 hb.2 te hte ht.1 (by omega) s' hs (Lib.hid fun W => shiftedUp_c te s' ht.1 (by omega) hs'.1 hs'.2 W) w
 have hz := topB_none sc k hk h0 h2
 simp only [ruleT, baseB, stepB]
 by_cases hsc : sc = 2
 ·rw [if_pos (hz.2 hsc)] at hs
  subst hs
  rw [if_pos hsc, if_pos hsc]
  have : upB te (Int.toNat 0) = te := by simp [upB]
  rw [this, ← hte]
  rcases hk with rfl | rfl <;> simp
 ·rw [if_neg (fun h => hsc (hz.1 h))] at hs
  subst hs
  rw [if_neg hsc, if_neg hsc, ← hte]
  rcases hk with rfl | rfl <;> simp
end
section
open Go.ChangeShapes Go.WideShapes Go.ChangeAt Go.RowKit
set_option linter.unusedVariables false
set_option maxRecDepth 100000
theorem lostB_next (sc ke lo : Int) (ls : List Int) (j : Nat) (x : Gi) (l : Int) (hx : (passL ke lo)[j]? = some x) (hl : ls[j]? = some l) : lostB sc ke lo ls (j + 1) = stepB (lostB sc ke lo ls j) x.re sc l := by
 have h1 : j < (passL ke lo).length := (List.getElem?_eq_some_iff.1 hx).1
 have h2 : j < ls.length := (List.getElem?_eq_some_iff.1 hl).1
 unfold lostB
 rw [take_snoc hx, take_snoc hl]
 exact runB_snoc sc x l _ _ _ (by rw [List.length_take, List.length_take]; omega)
theorem lostB_all (sc ke lo : Int) (ls : List Int) (h : ls.length = (passL ke lo).length) : ofB sc ke lo ls = lostB sc ke lo ls (passL ke lo).length + (if ke = 2 then 224 * lo else 0) := by
 unfold ofB lostB
 rw [List.take_length, ← h, List.take_length]
theorem shifts14_c (fo lo ke sc mo : Int) (iv : Bool) (hok : okF fo lo ke sc mo = true) (sp : Option Addr) (cl : Nat) (ls : List Int) (hls : ls.length ≤ 10) (w : World) (hl : NumsAt w (.slice sp ls.length cl) ls) :
 CW 21 #[.agg #[.int .i64 fo, .int .i64 lo, .int .i64 ke, .int .i64 sc, .int .i64 mo, .bool iv], .slice sp ls.length cl] w (.bool (fitsB sc (passL ke lo) ls)) :=by
 delta CW
 have hf := okF_iff.1 hok
 exact shifts14_of fo lo ke sc mo iv (passL ke lo) sp cl ls (passL_len6 ke lo (by omega) (by omega) (by omega) (by omega)) hls (Lib.hid fun W => refPasses_new fo lo ke sc mo iv hok W) (Lib.hid fun k W => top14_c fo lo ke sc mo k iv W) w hl
theorem of14_c (fo lo ke sc mo : Int) (iv : Bool) (hok : okF fo lo ke sc mo = true) (sp : Option Addr) (cl : Nat) (ls : List Int) (hf : fitsB sc (passL ke lo) ls = true) (w : World) (hl : NumsAt w (.slice sp ls.length cl) ls) :
 CW 22 #[.agg #[.int .i64 fo, .int .i64 lo, .int .i64 ke, .int .i64 sc, .int .i64 mo, .bool iv], .slice sp ls.length cl] w (.int .i64 (ofB sc ke lo ls)) :=by
 delta CW
 have ho := okF_iff.1 hok
 have hlen := fitsB_len sc _ ls hf
 have hn := fun j => lostB_nums sc ke lo ls j (by omega) (by omega) (by omega) (by omega) hf
 refine of14_of fo lo ke sc mo (224 * lo) (ofB sc ke lo ls) iv (passL ke lo) sp cl ls (lostB sc ke lo ls) (passL_len6 ke lo (by omega) (by omega) (by omega) (by omega)) hlen (Lib.hid fun W => refPasses_new fo lo ke sc mo iv hok W)
  (Lib.hid fun W => start14_c fo lo ke sc mo iv W) (Lib.hid fun j x l hx hll W => ?_) ?_ w hl
 ·have hfit := fitB_iff.1 (fitsB_at sc _ ls j x l hf hx hll)
  have ht := topB_le sc x.re
  have hk := passL_kern ke lo x (List.mem_of_getElem? hx)
  have hb := hn j
  rw [lostB_next sc ke lo ls j x l hx hll]
  exact calls_gr (step14_c _ _ _ _ (mayB_iff.2 ⟨by omega, hk, by omega, by omega⟩) W)
 ·have hb := hn (passL ke lo).length
  have ha := lostB_all sc ke lo ls hlen
  by_cases hk : ke = 2
  ·rw [if_pos hk] at ha ⊢
   rw [ha]
   exact ⟨IntWalk.wrap64_in _ ⟨by omega, by omega⟩, IntWalk.wrap64_in _ ⟨by omega, by omega⟩⟩
  ·rw [if_neg hk] at ha ⊢
   omega
end
end Go.Proofs.YtdignnmpfkgkoaaGreat
