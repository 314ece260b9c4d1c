import PyProof.Rows.All
import Wide.All
import OpenK.AllK
import Wide.FinOn
import HandS.ForMost
import HandS.Wide
import HandS.Gcd
import HandS.IsInst
import HandS.TupAny
import HandS.SortInts
import HandS.Style
import HandS.Codes
import HandS.Walk
import HandS.RaiseMore
import HandS.TupMul
import HandS.WideBits
import HandS.Zip
import PySem.Challenge.RW_dustwithin_k02_writings
set_option Elab.async false
set_option maxRecDepth 100000
namespace My
open PySem PySem.Spec PyProof.Rows L2

/-! ### sorted(t), t a tuple of ints -/
section
variable {prog : Program} {w : World} {A : Around} {E : Value → Shared → Prop} {s : Shared}
theorem gather_tup {t : Addr} {us : List Value} {Q : List Value → Shared → Prop} (ht : IsTup s.heap t us.toArray) (hz : us.length ≤ sizeLine)
    (q : Q us { s with heap := (s.heap.push (seqObj "list" #[] 0)).update s.heap.objs.size (Obj.mapSeq (· ++ us.toArray)) }) : wpAny (model prog w) A (collect (.ref t)) Q E s := by
  obtain ⟨ob, hob, hcl, m, hdat⟩ := ht
  unfold collect
  refine wpAny_bind (wpAny_runValue (codeAny_builtin entry_proto_collect' ?_))
  show wpAny _ _ (do again (.builtin "list.__iadd__" ⟨[← newList [], .ref t], []⟩)) _ _ s
  refine wpAny_bind (wpAny_newList (wpAny_pure ⟨Code.quiet_builtin _ (by decide +kernel), codeAny_builtin entry_list_iadd' ?_⟩))
  show wpAny _ _ (Builtin.List.listExtendWith (.ref s.heap.objs.size) (.ref t) (.ref s.heap.objs.size)) _ _ { s with heap := s.heap.push (seqObj "list" #[] 0) }
  unfold Builtin.List.listExtendWith
  have hob1 : (s.heap.push (seqObj "list" #[] 0)).get? t = some ob := Heap.get?_push_of_some _ hob
  have e2 : (Value.type "tuple" == Value.type "tuple") = true := by rfl
  refine wpAny_bind (wpAny_typeOf (T := "tuple") ⟨ob, hob1, hcl⟩ ?_); rw [if_pos (by rw [e2]; simp)]
  refine wpAny_bind (listItems_at hob1 hdat ?_); refine wpAny_bind (listItems_at (n := 0) (xs := #[]) (Heap.get?_push_size _ rfl) rfl ?_); rw [if_neg (by simp)]
  refine wpAny_bind (listUpdate_at (n := 0) (xs := #[]) (Heap.get?_push_size _ rfl) rfl ?_ (Nat.zero_le _) (by show (#[] ++ us.toArray).size ≤ sizeLine + 1; simp only [Array.size_append, List.size_toArray, List.length_nil]; omega))
  refine wpAny_pure ?_; show wpAny (model prog w) A (do
      let ob ← load s.heap.objs.size
      match ob.data with
      | .seq xs _ => pure xs.toList
      | _ => unsupported "internal:collect") Q E { s with heap := (s.heap.push (seqObj "list" #[] 0)).update s.heap.objs.size (Obj.mapSeq (· ++ us.toArray)) }
  refine wpAny_bind (wpAny_load (get?_update_seq (Heap.get?_push_size _ rfl) _) ?_)
  show wpAny _ _ (pure ((#[] : Array Value) ++ us.toArray).toList) Q E _
  rw [show ((#[] : Array Value) ++ us.toArray).toList = us by simp]; exact wpAny_pure q
theorem sorted_tup {t : Addr} {us : List Value} {ms : List Int} {Q : Value → Shared → Prop} (ht : IsTup s.heap t us.toArray) (hI : IntsAre us ms) (h64 : us.length < 64)
    (q : ∀ (out : Array Value) (ms' : List Int), IntsAre out.toList ms' → ms'.Perm ms → ms'.Pairwise (· ≤ ·) → Q (.ref (s.heap.objs.size + 1)) { s with heap := sortedAll s.heap us out }) :
    wpAny (model prog w) A (call (.builtin "sorted") [.ref t]) Q E s := by
  refine Calls.call_function_entry kind_sorted plain_sorted entry_sorted (args_sorted1 _) ?_; unfold Builtin.«sorted»
  refine wpAny_bind (m := checkCount "sorted" 1 1 _) (wpAny_pure ?_)
  refine wpAny_bind (gather_tup ht (small64 h64) ?_); refine wpAny_bind (wpAny_newList ?_ (small64 h64))
  have k1 : ((s.heap.push (seqObj "list" #[] 0)).update s.heap.objs.size (Obj.mapSeq (· ++ us.toArray))).objs.size = s.heap.objs.size + 1 := by rw [Heap.size_update, size_push']
  have k2 : (((s.heap.push (seqObj "list" #[] 0)).update s.heap.objs.size (Obj.mapSeq (· ++ us.toArray))).push (seqObj "list" us.toArray 0)).get? (s.heap.objs.size + 1) = some (seqObj "list" us.toArray 0) := by rw [← k1]; exact Heap.get?_push_size _ rfl
  show wpAny _ _ _ _ _ { s with heap := ((s.heap.push (seqObj "list" #[] 0)).update s.heap.objs.size (Obj.mapSeq (· ++ us.toArray))).push (seqObj "list" us.toArray 0) }
  rw [k1]
  refine wpAny_bind (wpAny_holding (wpAny_call_entry slot_list_sort ⟨_, k2, rfl⟩ entry_list_sort (list_sort_tree k2 hI h64 fun out ms' a1 a2 a3 => ⟨_, rfl, ?_⟩) (args_list_sort _)))
  exact wpAny_pure ⟨_, rfl, q out ms' a1 a2 a3⟩
end
section
variable {X : Cx}
theorem cr_sortedTup : CallR X (.builtin "sorted") (fun vs H Q => ∃ (a : Addr) (ms : List Int), vs = [V.ref a] ∧ SqT X.K H a (ms.map V.int) ∧ ms.length < 64 ∧
    ∀ (ms' : List Int) (p : Addr), ms'.Perm ms → ms'.Pairwise (· ≤ ·) → H p = none → Q (.ref p) (upd H p (.lst (ms'.map V.int)))) := by
  intro pins s σ H vs us Q I r h
  obtain ⟨a, ms, rfl, hs, h64, q⟩ := h
  obtain ⟨its, rv, hl, _⟩ := I.tuple hs
  rw [Vals.ref1 r]
  have hi := rv.ints
  refine sorted_tup hl hi (by rw [hi.length]; exact h64) fun out ms' h1 h2 h3 => ?_
  obtain ⟨ep, he⟩ := PyProof.Rows.sortedAll_at s.heap its out
  have hlen : (ms'.map V.int).length ≤ sizeLine := by rw [List.length_map, h2.length_eq]; exact small64 h64
  exact ⟨.ref _, upd H (s.heap.objs.size + 1) (.lst (ms'.map V.int)), I.laid (t' := s.toks) (fun _ _ => sortedAll_old) (Nat.le_succ _) ⟨hlen, out.toList, ep, vals_of_ints h1, he⟩, rfl, q ms' _ h2 h3 (I.hok.fresh (Nat.le_succ _))⟩
end

/-! ### data that stands still: G is a part of the heap that nothing writes -/
mutual
inductive Dq (K : PySem.W.Frag) (G : Hp) : V → PyData → Prop
  | non : Dq K G .non .none
  | bl (b : Bool) : Dq K G (.bl b) (.bool b)
  | int (i : Int) : Dq K G (.int i) (.int i)
  | str (x : Str) : Dq K G (.str x) (.str x)
  | lst {a : Addr} {xs : List V} {ds : List PyData} : G a = some (.lst xs) → DqAll K G xs ds → Dq K G (.ref a) (.list ds)
  | tup {a : Addr} {xs : List V} {ds : List PyData} : G a = some (.tup xs) → DqAll K G xs ds → Dq K G (.ref a) (.tuple ds)
  | dct {a : Addr} {kvs : List (Key × V)} {ds : List (PyData × PyData)} : G a = some (.dK kvs) → DqAll K G (kvs.map fun kv => kV kv.1) (ds.map (·.1)) → DqAll K G (kvs.map (·.2)) (ds.map (·.2)) → Dq K G (.ref a) (.dict ds)
inductive DqAll (K : PySem.W.Frag) (G : Hp) : List V → List PyData → Prop
  | nil : DqAll K G [] []
  | cons {v : V} {vs : List V} {d : PyData} {ds : List PyData} : Dq K G v d → DqAll K G vs ds → DqAll K G (v :: vs) (d :: ds)
end
section
variable {K : PySem.W.Frag} {G G' H : Hp}
mutual
theorem Dq.mono (e : Same G G') : ∀ {v : V} {d : PyData}, Dq K G v d → Dq K G' v d
  | _, _, .non => .non
  | _, _, .bl b => .bl b
  | _, _, .int i => .int i
  | _, _, .str x => .str x
  | _, _, .lst h t => .lst (e _ _ h) (DqAll.mono e t)
  | _, _, .tup h t => .tup (e _ _ h) (DqAll.mono e t)
  | _, _, .dct h t u => .dct (e _ _ h) (DqAll.mono e t) (DqAll.mono e u)
theorem DqAll.mono (e : Same G G') : ∀ {vs : List V} {ds : List PyData}, DqAll K G vs ds → DqAll K G' vs ds
  | _, _, .nil => .nil
  | _, _, .cons h t => .cons (Dq.mono e h) (DqAll.mono e t)
end
theorem DqAll.append : ∀ {vs ws : List V} {ds es : List PyData}, DqAll K G vs ds → DqAll K G ws es → DqAll K G (vs ++ ws) (ds ++ es)
  | _, _, _, _, .nil, t => t
  | _, _, _, _, .cons h r, t => .cons h (DqAll.append r t)
theorem DqAll.get : ∀ {vs : List V} {ds : List PyData} {i : Nat} {v : V}, DqAll K G vs ds → vs[i]? = some v → ∃ d, ds[i]? = some d ∧ Dq K G v d
  | _, _, _, _, .nil, e => by simp at e
  | _, _, 0, _, .cons h _, e => by simp at e; subst e; exact ⟨_, rfl, h⟩
  | _, _, i + 1, v, .cons _ t, e => by
    obtain ⟨d, h1, h2⟩ := DqAll.get (i := i) (v := v) t (by simpa using e)
    exact ⟨d, by simpa using h1, h2⟩
theorem DqAll.len : ∀ {vs : List V} {ds : List PyData}, DqAll K G vs ds → vs.length = ds.length
  | _, _, .nil => rfl
  | _, _, .cons _ t => by rw [List.length_cons, List.length_cons, DqAll.len t]
theorem DqAll.drop : ∀ {vs : List V} {ds : List PyData} (n : Nat), DqAll K G vs ds → DqAll K G (vs.drop n) (ds.drop n)
  | _, _, 0, h => h
  | _, _, _ + 1, .nil => .nil
  | _, _, n + 1, .cons _ t => DqAll.drop n t
theorem DqAll.take : ∀ {vs : List V} {ds : List PyData} (n : Nat), DqAll K G vs ds → DqAll K G (vs.take n) (ds.take n)
  | _, _, 0, _ => .nil
  | _, _, _ + 1, .nil => .nil
  | _, _, n + 1, .cons h t => .cons h (DqAll.take n t)
theorem DqAll.rev : ∀ {vs : List V} {ds : List PyData}, DqAll K G vs ds → DqAll K G vs.reverse ds.reverse
  | _, _, .nil => .nil
  | _, _, .cons h t => by
    rw [List.reverse_cons, List.reverse_cons]
    exact DqAll.append (DqAll.rev t) (.cons h .nil)
theorem dq_ints (K : PySem.W.Frag) (G : Hp) : ∀ ns : List Int, DqAll K G (ns.map V.int) (ns.map PyData.int)
  | [] => .nil
  | n :: r => .cons (.int n) (dq_ints K G r)
end
mutual
def hasList : PyData → Bool
  | .list _ => true
  | .tuple xs => hasListAll xs
  | .dict kvs => hasListKv kvs
  | _ => false
def hasListAll : List PyData → Bool
  | [] => false
  | x :: xs => hasList x || hasListAll xs
def hasListKv : List (PyData × PyData) → Bool
  | [] => false
  | (k, v) :: r => hasList k || hasList v || hasListKv r
end
theorem hasListKv_split : ∀ kvs : List (PyData × PyData), hasListKv kvs = false → hasListAll (kvs.map (·.1)) = false ∧ hasListAll (kvs.map (·.2)) = false
  | [], _ => ⟨rfl, rfl⟩
  | (k, v) :: r, h => by
    simp only [hasListKv, Bool.or_eq_false_iff] at h
    obtain ⟨a, b⟩ := hasListKv_split r h.2
    simp only [List.map_cons, hasListAll, Bool.or_eq_false_iff]
    exact ⟨⟨h.1.1, a⟩, h.1.2, b⟩
section
variable {X : Cx} {pins : List (Addr × Obj)} {σ : L2.St} {H : Hp} {s : Shared}
theorem kv_keys {P : Program} {w : World} : ∀ {kvs : List (Key × V)} {vs : List (Key × Value)} {es : List DictEntry}, KV kvs vs → Pairs (mixKind P w) es vs → Vals (kvs.map fun kv => kV kv.1) (es.map (·.key)) ∧ Vals (kvs.map (·.2)) (es.map (·.val))
  | _, _, _, .nil, .nil => ⟨.nil, .nil⟩
  | (k, v) :: _, (k', v') :: _, _ :: _, .cons ⟨h1, h2⟩ t, .cons g1 g2 g3 => by
    obtain ⟨a, b⟩ := kv_keys t g3
    refine ⟨.cons ?_ a, .cons ?_ b⟩
    · have e : k = k' := h1
      subst e
      rcases keyIs_shape (show keyIs k _ = true from g1) with ⟨i, tk, rfl, e2⟩ | ⟨x, tk, rfl, e2⟩
      · exact ⟨tk, e2⟩
      · exact ⟨tk, e2⟩
    · have e2 : (_ : DictEntry).val = v' := g2
      show RelV v (DictEntry.val _)
      rw [e2]; exact h2
mutual
theorem Dq.reads (I : Inv X pins σ H s) : ∀ (d : PyData) (v : V) (u : Value), Dq X.K H v d → RelV v u → ∃ as, Reads s.heap u d as ∧ (hasList d = false → sysModules ∉ as)
  | .none, _, _, h, r => by cases h; cases r; exact ⟨_, Reads.none, fun _ z => nomatch z⟩
  | .bool b, _, _, h, r => by cases h; cases r; exact ⟨_, Reads.bool b, fun _ z => nomatch z⟩
  | .int i, _, _, h, r => by cases h; obtain ⟨t, rfl⟩ := r; exact ⟨_, Reads.int i t, fun _ z => nomatch z⟩
  | .str x, _, _, h, r => by cases h; obtain ⟨t, rfl⟩ := r; exact ⟨_, Reads.str x t, fun _ z => nomatch z⟩
  | .list ds, _, _, h, r => by
    cases h with
    | lst hs ha =>
      cases r
      obtain ⟨_, its, n, rv, ho⟩ := I.hok _ _ hs
      obtain ⟨as, hr, _⟩ := DqAll.reads I ds _ its ha rv
      exact ⟨_, Reads.list ho rfl rfl (by simpa using hr), fun z => nomatch z⟩
  | .tuple ds, _, _, h, r => by
    cases h with
    | tup hs ha =>
      cases r
      obtain ⟨_, its, rv, o, ho, hc, n, hd⟩ := I.hok _ _ hs
      obtain ⟨as, hr, hn⟩ := DqAll.reads I ds _ its ha rv
      exact ⟨_, Reads.tuple ho hc hd (by simpa using hr), fun z => hn (by simpa only [hasList] using z)⟩
  | .dict ds, _, _, h, r => by
    cases h with
    | dct hs hk hv =>
      rename_i a kvs
      cases r
      obtain ⟨_, hm, vs, rel, o, es, ep, ho, hx, hd, _, hp, _⟩ := I.hok _ _ hs
      obtain ⟨r1, r2⟩ := kv_keys rel hp
      obtain ⟨as, q1, n1⟩ := DqAll.readsK I ds _ _ hk r1
      obtain ⟨bs, q2, n2⟩ := DqAll.readsV I ds _ _ hv r2
      refine ⟨_, Reads.dict ho hx.1 hd q1 q2, fun z => ?_⟩
      obtain ⟨z1, z2⟩ := hasListKv_split ds (by simpa only [hasList] using z)
      intro hmem
      rcases List.mem_append.mp hmem with hmem | hmem
      · rcases List.mem_cons.mp hmem with e | e
        · rw [← e] at hm; simp at hm
        · exact n1 z1 e
      · exact n2 z2 hmem
theorem DqAll.reads (I : Inv X pins σ H s) : ∀ (ds : List PyData) (vs : List V) (us : List Value), DqAll X.K H vs ds → Vals vs us → ∃ as, ReadsAll s.heap us ds as ∧ (hasListAll ds = false → sysModules ∉ as)
  | [], _, _, h, r => by cases h; cases r; exact ⟨_, ReadsAll.nil, fun _ z => nomatch z⟩
  | d :: ds, _, _, h, r => by
    cases h with
    | cons h1 h2 =>
      cases r with
      | cons r1 r2 =>
        obtain ⟨as, q1, n1⟩ := Dq.reads I d _ _ h1 r1
        obtain ⟨bs, q2, n2⟩ := DqAll.reads I ds _ _ h2 r2
        refine ⟨_, ReadsAll.cons q1 q2, fun z hm => ?_⟩
        simp only [hasListAll, Bool.or_eq_false_iff] at z
        rcases List.mem_append.mp hm with e | e
        · exact n1 z.1 e
        · exact n2 z.2 e
theorem DqAll.readsK (I : Inv X pins σ H s) : ∀ (ds : List (PyData × PyData)) (vs : List V) (us : List Value), DqAll X.K H vs (ds.map (·.1)) → Vals vs us → ∃ as, ReadsAll s.heap us (ds.map (·.1)) as ∧ (hasListAll (ds.map (·.1)) = false → sysModules ∉ as)
  | [], _, _, h, r => by cases h; cases r; exact ⟨_, ReadsAll.nil, fun _ z => nomatch z⟩
  | (d, d') :: ds, _, _, h, r => by
    cases h with
    | cons h1 h2 =>
      cases r with
      | cons r1 r2 =>
        obtain ⟨as, q1, n1⟩ := Dq.reads I d _ _ h1 r1
        obtain ⟨bs, q2, n2⟩ := DqAll.readsK I ds _ _ h2 r2
        refine ⟨_, ReadsAll.cons q1 q2, fun z hm => ?_⟩
        simp only [List.map_cons, hasListAll, Bool.or_eq_false_iff] at z
        rcases List.mem_append.mp hm with e | e
        · exact n1 z.1 e
        · exact n2 z.2 e
theorem DqAll.readsV (I : Inv X pins σ H s) : ∀ (ds : List (PyData × PyData)) (vs : List V) (us : List Value), DqAll X.K H vs (ds.map (·.2)) → Vals vs us → ∃ as, ReadsAll s.heap us (ds.map (·.2)) as ∧ (hasListAll (ds.map (·.2)) = false → sysModules ∉ as)
  | [], _, _, h, r => by cases h; cases r; exact ⟨_, ReadsAll.nil, fun _ z => nomatch z⟩
  | (d, d') :: ds, _, _, h, r => by
    cases h with
    | cons h1 h2 =>
      cases r with
      | cons r1 r2 =>
        obtain ⟨as, q1, n1⟩ := Dq.reads I d' _ _ h1 r1
        obtain ⟨bs, q2, n2⟩ := DqAll.readsV I ds _ _ h2 r2
        refine ⟨_, ReadsAll.cons q1 q2, fun z hm => ?_⟩
        simp only [List.map_cons, hasListAll, Bool.or_eq_false_iff] at z
        rcases List.mem_append.mp hm with e | e
        · exact n1 z.1 e
        · exact n2 z.2 e
end
end
end My

namespace My
open PySem PySem.Spec PyProof.Rows L2
def topS (i : Nat) : Stmt := PySem.Challenge.pw_dustwithin_k02_writings.main.body.getD i (.Pass ⟨0, 0, 0, 0⟩)
abbrev sSpread : Stmt := topS 10
abbrev sOpen : Stmt := topS 11
abbrev sTake : Stmt := topS 12
/-! ### the pen -/
structure PenAt (H : Hp) (p : Addr) (t : Nat) : Prop where
  ex : ∃ (c : Addr) (cells : List Int) (at' rest : Int), H p = some (.lst [.ref c, .int at', .int rest]) ∧ H c = some (.lst (cells.map V.int)) ∧ 0 ≤ at' ∧ at' ≤ (t : Int)
theorem ne_len {H : Hp} {p c : Addr} {xs ys : List V} (h : H p = some (.lst xs)) (g : H c = some (.lst ys)) (e : xs ≠ ys) : c ≠ p := by
  intro z; subst z; rw [h] at g; cases g; exact e rfl
theorem pen_ne {H : Hp} {p c : Addr} {x : Addr} {i j : Int} {cells : List Int} (h : H p = some (.lst [.ref x, .int i, .int j])) (g : H c = some (.lst (cells.map V.int))) : c ≠ p :=
  ne_len h g (by intro z; cases cells with | nil => cases z | cons a r => cases z)
def But (p : Addr) (H H' : Hp) : Prop := ∀ b o, b ≠ p → H b = some o → H' b = some o
theorem But.of {p : Addr} {H H' : Hp} (e : Same H H') : But p H H' := fun b o _ => e b o
theorem But.trans {p : Addr} {H H1 H2 : Hp} (a : But p H H1) (b : But p H1 H2) : But p H H2 := fun c o n h => b c o n (a c o n h)
theorem But.upd {p : Addr} {H : Hp} {o : HO} : But p H (upd H p o) := fun b u n h => by rw [upd_ne n]; exact h
theorem PenAt.same {H H' : Hp} {p : Addr} {t u : Nat} (e : Same H H') (h : t ≤ u) (P : PenAt H p t) : PenAt H' p u := by
  obtain ⟨c, cells, x, y, h1, h2, h3, h4⟩ := P.ex
  exact ⟨c, cells, x, y, e _ _ h1, e _ _ h2, h3, by omega⟩
theorem Same.upd {H : Hp} {p : Addr} {o : HO} (n : H p = none) : Same H (upd H p o) := fun b u h => by rw [upd_ne (ne_of_none h n)]; exact h
structure PenC (H : Hp) (p c : Addr) (t : Nat) : Prop where
  ex : ∃ (cells : List Int) (at' rest : Int), H p = some (.lst [.ref c, .int at', .int rest]) ∧ H c = some (.lst (cells.map V.int)) ∧ 0 ≤ at' ∧ at' ≤ (t : Int)
theorem PenC.any {H : Hp} {p c : Addr} {t : Nat} (h : PenC H p c t) : PenAt H p t := by
  obtain ⟨cells, x, y, h⟩ := h.ex
  exact ⟨c, cells, x, y, h⟩
theorem PenAt.c {H : Hp} {p : Addr} {t : Nat} (h : PenAt H p t) : ∃ c, PenC H p c t := by
  obtain ⟨c, cells, x, y, h⟩ := h.ex
  exact ⟨c, cells, x, y, h⟩
theorem PenC.same {H H' : Hp} {p c : Addr} {t u : Nat} (e : Same H H') (h : t ≤ u) (P : PenC H p c t) : PenC H' p c u := by
  obtain ⟨cells, x, y, h1, h2, h3, h4⟩ := P.ex
  exact ⟨cells, x, y, e _ _ h1, e _ _ h2, h3, by omega⟩
theorem PenC.at_c {H : Hp} {p c : Addr} {t : Nat} (h : PenC H p c t) : H c ≠ none := by
  obtain ⟨cells, x, y, h1, h2, _⟩ := h.ex
  rw [h2]; exact fun z => nomatch z
theorem PenC.upd {H : Hp} {p c : Addr} {t u : Nat} (P : PenC H p c t) {q : Addr} (h1 : q ≠ p) (h2 : q ≠ c) (h : t ≤ u) (o : HO) : PenC (upd H q o) p c u := by
  obtain ⟨cells, x, y, g1, g2, g3, g4⟩ := P.ex
  exact ⟨cells, x, y, by rw [upd_ne h1.symm]; exact g1, by rw [upd_ne h2.symm]; exact g2, g3, by omega⟩
/-! ### promises -/
def spSpread : Sp := fun vs H Q _ => ∃ (c a : Int), vs = [.int c, .int a] ∧ 0 ≤ a ∧ a < 2 ^ 30 ∧ ∀ (r : Int) (H' : Hp), Same H H' → Q (.int r) H'
def spOpen (K : PySem.W.Frag) : Sp := fun vs H Q _ => ∃ (a : Addr) (ns : List Int), vs = [.ref a] ∧ SqL K H a (ns.map V.int) ∧ ns.length ≤ 63 ∧ ∀ (p : Addr) (H' : Hp), H p = none → Same H H' → PenAt H' p 0 → Q (.ref p) H'
def spTake : Sp := fun vs H Q _ => ∃ (p : Addr) (n : Int) (t : Nat), vs = [.ref p, .int n] ∧ 0 < n ∧ n.natAbs < 2 ^ 8000 ∧ PenAt H p t ∧ t < 2 ^ 29 ∧ ∀ (m : Int) (H' : Hp), 0 ≤ m → m < n → But p H H' → PenAt H' p (t + 1) → Q (.int m) H'
def spTakeC : Sp := fun vs H Q _ => ∃ (p c : Addr) (n : Int) (t : Nat), vs = [.ref p, .int n] ∧ 0 < n ∧ n.natAbs < 2 ^ 8000 ∧ PenC H p c t ∧ t < 2 ^ 29 ∧ ∀ (m : Int) (H' : Hp), 0 ≤ m → m < n → But p H H' → PenC H' p c (t + 1) → Q (.int m) H'
section
variable {P : Program} {w : World} {K : PySem.W.Frag} {mg : Str → Option Value} {base : Heap}
def primesV : List V := [.int 2147483629, .int 2147483587, .int 2147483579, .int 2147483563, .int 2147483549, .int 2147483543, .int 2147483497, .int 2147483489] ++ [.int 2147483477, .int 2147483423, .int 2147483399, .int 2147483353, .int 2147483323]
theorem prime_at {j : Int} (h0 : 0 ≤ j) (h1 : j < 13) : ∃ q : Int, atI primesV j = some (.int q) ∧ 0 < q ∧ q < 2147483648 := by
  have h : j = 0 ∨ j = 1 ∨ j = 2 ∨ j = 3 ∨ j = 4 ∨ j = 5 ∨ j = 6 ∨ j = 7 ∨ j = 8 ∨ j = 9 ∨ j = 10 ∨ j = 11 ∨ j = 12 := by omega
  rcases h with rfl | rfl | rfl | rfl | rfl | rfl | rfl | rfl | rfl | rfl | rfl | rfl | rfl <;> exact ⟨_, rfl, by decide, by decide⟩
theorem mod_at {x : Int} : 0 ≤ x % 13 ∧ x % 13 < 13 := ⟨Int.emod_nonneg _ (by decide), Int.emod_lt_of_pos _ (by decide)⟩
theorem mod_lt {x q : Int} (h : 0 < q) (h2 : q < 2147483648) : 0 ≤ x % q ∧ x % q < 2147483648 := ⟨Int.emod_nonneg _ (by omega), by have := Int.emod_lt_of_pos x h; omega⟩
theorem scSpread : FnScope ["cell", "at", "primes", "one", "two", "three"] ["cell", "at"] (defScope sSpread) := ⟨rfl, rfl, rfl, by decide +kernel, rfl, by decide +kernel, by decide +kernel⟩
theorem pow_ok {i : Int} {j : Int} (hj : j = 3 ∨ j = 5) (h0 : 0 ≤ i) (h1 : i < 2 ^ 64) : CPow i j := by
  refine ⟨by omega, by omega, ?_⟩
  omega
theorem ok_spread {f : Addr} {fd : FuncData} (F : Fun K "_law_spread" "_law_spread" sSpread f fd) : FnOk P w K mg base CX0 1 f fd ["cell", "at"] spSpread := by
  refine F.ok scSpread (fun vs H Q E h => ?_) (fun cdv A outer s H vs Q E hr h => ?_)
  · obtain ⟨c, a, rfl, _⟩ := h
    rfl
  · obtain ⟨c, a, rfl, ha0, ha1, k⟩ := h
    refine ⟨_, pss_cons (ps_if (pt_cmpR op_ge (pv 0) (pe_op op_pow pe_int pe_int) (nomark _)) (pss_one (ps_ret (pv 0))) pss_nil)
      (pss_cons (ps_set (i := 2) scSpread.nd rfl (Or.inl rfl) (pe_lst (pa_cons pe_int (pa_cons pe_int (pa_cons pe_int (pa_cons pe_int (pa_cons pe_int (pa_cons pe_int (pa_cons pe_int (pa_cons pe_int pa_nil))))))))))
      (pss_cons (ps_set (i := 2) scSpread.nd rfl (Or.inl rfl) (pe_op op_cat (pv 2) (pe_lst (pa_cons pe_int (pa_cons pe_int (pa_cons pe_int (pa_cons pe_int (pa_cons pe_int pa_nil))))))))
      (pss_cons (ps_set (i := 3) scSpread.nd rfl (Or.inl rfl) (pe_op op_mod (pe_op op_pow (pe_op op_add (pe_op op_add (pe_op op_mul (pe_op op_mod (pv 0) pe_int) (pe_op op_add (pe_op op_mul pe_int (pv 1)) pe_int)) (pe_op op_mul (pv 1) pe_int)) pe_int) pe_int)
        (pe_ix ix_list (pv 2) (pe_op op_mod (pv 1) pe_int) (fun _ _ => rfl))))
      (pss_cons (ps_set (i := 4) scSpread.nd rfl (Or.inl rfl) (pe_op op_mod (pe_op op_pow (pe_op op_add (pe_op op_add (pe_op op_mul (pv 3) (pe_op op_add (pv 1) pe_int)) (pe_op op_mod (pv 0) pe_int)) pe_int) pe_int)
        (pe_ix ix_list (pv 2) (pe_op op_mod (pe_op op_add (pv 1) pe_int) pe_int) (fun _ _ => rfl))))
      (pss_cons (ps_set (i := 5) scSpread.nd rfl (Or.inl rfl) (pe_op op_mod (pe_op op_pow (pe_op op_add (pe_op op_add (pv 4) (pe_op op_mod (pv 3) pe_int)) (pv 1)) pe_int)
        (pe_ix ix_list (pv 2) (pe_op op_mod (pe_op op_add (pv 1) pe_int) pe_int) (fun _ _ => rfl))))
      (pss_one (ps_ret (pe_op op_add (pe_op op_mul (pe_op op_add (pe_op op_mul (pv 3) pe_int) (pv 4)) pe_int) (pv 5))))))))), ?_⟩
    refine ⟨_, rfl, _, _, rfl, rfl, ⟨by decide, by decide, by decide⟩, _, _, rfl, rfl, _, rfl, ite2 (fun _ => ⟨_, rfl, k _ _ (Same.refl H)⟩) (fun _ => ?_)⟩
    -- primes
    refine ⟨by decide, fun l1 n1 => ?_⟩
    refine ⟨_, rfl, by decide, fun l2 n2 => ?_⟩
    have l21 : l1 ≠ l2 := ne_of_none upd_same n2
    refine ⟨l1, l2, _, _, rfl, rfl, (by rw [upd_ne l21]; exact upd_same), upd_same, by decide, fun l3 n3 => ?_⟩
    -- one
    have c0 := Int.emod_nonneg c (show (1000000007 : Int) ≠ 0 by decide)
    have c1 := Int.emod_lt_of_pos c (show (0 : Int) < 1000000007 by decide)
    have b0 : 0 ≤ c % 1000000007 * (2 * a + 69069) := Int.mul_nonneg c0 (by omega)
    have b1 : c % 1000000007 * (2 * a + 69069) ≤ 1000000007 * (2 * 1073741824 + 69069) := Int.mul_le_mul (by omega) (by omega) (by omega) (by decide)
    obtain ⟨q1, a1, q10, q11⟩ := prime_at (mod_at (x := a)).1 mod_at.2
    refine ⟨_, rfl, _, _, rfl, rfl, (by show (0 : Int) < 1000000007; decide), _, rfl, _, _, rfl, rfl, .inl ⟨by decide, by decide⟩, _, _, rfl, rfl, _, _, rfl, rfl, .inl ⟨by omega, by omega⟩, _, rfl, _, _, rfl, rfl, .inl ⟨by omega, by omega⟩, _, _, rfl, rfl, _, _, rfl, rfl,
      _, _, rfl, rfl, pow_ok (.inl rfl) (by omega) (by omega), _, rfl, _, rfl, _, _, rfl, rfl, (by show (0 : Int) < 13; decide), l3, primesV, _, _, rfl, rfl, SqL.of upd_same, a1, _, _, rfl, rfl, q10, ?_⟩
    dsimp only
    generalize hz : (c % 1000000007 * (2 * a + 69069) + a * 40503 + 977) ^ (3 : Int).toNat % q1 = one
    have o1 := hz ▸ mod_lt (x := (c % 1000000007 * (2 * a + 69069) + a * 40503 + 977) ^ (3 : Int).toNat) q10 q11
    -- two
    obtain ⟨q2, a2, q20, q21⟩ := prime_at (mod_at (x := a + 5)).1 mod_at.2
    have d0 := Int.emod_nonneg c (show (65537 : Int) ≠ 0 by decide)
    have d1 := Int.emod_lt_of_pos c (show (0 : Int) < 65537 by decide)
    have e0 : 0 ≤ one * (a + 3) := Int.mul_nonneg o1.1 (by omega)
    have e1 : one * (a + 3) ≤ 2147483648 * (1073741824 + 3) := Int.mul_le_mul (by omega) (by omega) (by omega) (by decide)
    refine ⟨_, rfl, _, rfl, _, _, rfl, rfl, _, _, rfl, rfl, .inl ⟨by omega, by omega⟩, _, rfl, _, _, rfl, rfl, (by show (0 : Int) < 65537; decide), _, _, rfl, rfl, _, _, rfl, rfl,
      _, _, rfl, rfl, pow_ok (.inr rfl) (by omega) (by omega), _, rfl, _, rfl, _, _, rfl, rfl, _, _, rfl, rfl, (by show (0 : Int) < 13; decide), l3, primesV, _, _, rfl, rfl, SqL.of upd_same, a2, _, _, rfl, rfl, q20, ?_⟩
    dsimp only
    generalize hy : (one * (a + 3) + c % 65537 + 5) ^ (5 : Int).toNat % q2 = two
    have o2 := hy ▸ mod_lt (x := (one * (a + 3) + c % 65537 + 5) ^ (5 : Int).toNat) q20 q21
    -- three
    obtain ⟨q3, a3, q30, q31⟩ := prime_at (mod_at (x := a + 7)).1 mod_at.2
    have g0 := Int.emod_nonneg one (show (1009 : Int) ≠ 0 by decide)
    have g1 := Int.emod_lt_of_pos one (show (0 : Int) < 1009 by decide)
    refine ⟨_, rfl, _, rfl, _, _, rfl, rfl, (by show (0 : Int) < 1009; decide), _, _, rfl, rfl, _, rfl, _, _, rfl, rfl,
      _, _, rfl, rfl, pow_ok (.inl rfl) (by omega) (by omega), _, rfl, _, rfl, _, _, rfl, rfl, _, _, rfl, rfl, (by show (0 : Int) < 13; decide), l3, primesV, _, _, rfl, rfl, SqL.of upd_same, a3, _, _, rfl, rfl, q30, ?_⟩
    refine ⟨_, rfl, _, _, rfl, rfl, .inl ⟨by omega, by omega⟩, _, rfl, _, _, rfl, rfl, _, _, rfl, rfl, .inl ⟨by omega, by omega⟩, _, rfl, _, _, rfl, rfl, ?_⟩
    exact k _ _ (((Same.upd n1).trans (Same.upd n2)).trans (Same.upd n3))

theorem scTake : FnScope ["pen", "many", "at", "cell", "found"] ["pen", "many"] (defScope sTake) := ⟨rfl, rfl, rfl, by decide +kernel, rfl, by decide +kernel, by decide +kernel⟩
theorem nat_at {xs : List Int} {i : Int} (h0 : 0 ≤ i) (h1 : i < xs.length) : ∃ v : Int, atI (xs.map V.int) i = some (.int v) := by
  obtain ⟨j, rfl⟩ : ∃ j : Nat, i = (j : Int) := ⟨i.toNat, by omega⟩
  have hj : j < xs.length := by omega
  exact ⟨xs[j], atI_nat (by rw [List.getElem?_map, List.getElem?_eq_getElem hj]; rfl)⟩
theorem mapInt_len (xs : List Int) : ((xs.map V.int).length : Int) = (xs.length : Int) := by rw [List.length_map]
theorem ok_takeC {f fS : Addr} {fd fdS : FuncData} (F : Fun K "_law_take" "_law_take" sTake f fd) (ml : mg "len" = none) (FS : Fun K "_law_spread" "_law_spread" sSpread fS fdS) (bS : Binds K fdS ["cell", "at"] []) (gS : mg "_law_spread" = some (.ref fS)) :
    FnOk P w K mg base CX0 2 f fd ["pen", "many"] spTakeC := by
  have GS : FnOk P w K mg base CX0 1 fS fdS ["cell", "at"] spSpread := ok_spread FS
  refine F.ok scTake (fun vs H Q E h => ?_) (fun cdv A outer s H vs Q E hr h => ?_)
  · obtain ⟨p, c, n, t, rfl, _⟩ := h
    rfl
  · obtain ⟨p, c, n, t, rfl, n0, nb, PA, tb, k⟩ := h
    obtain ⟨cells, a1, r1, hp, hc, a10, a11⟩ := PA.ex
    have ncp : c ≠ p := pen_ne hp hc
    refine ⟨_, C8.pss_cut (ps_if (pt_cmpR op_lt (pe_ix ix_list (pv 0) pe_int (fun _ _ => rfl)) (pv 1) (nomark _))
        (pss_cons (ps_set (i := 2) scTake.nd rfl (Or.inl rfl) (pe_ix ix_list (pv 0) pe_int (fun _ _ => rfl)))
        (pss_cons (ps_set (i := 3) scTake.nd rfl (Or.inl rfl) pe_int)
        (C8.pss_cut (ps_if (pt_cmpR op_lt (pv 2) (pe_callB call_len_seq (by rfl) ml PySem.boot_len (pa_cons (pe_ix ix_list (pv 0) pe_int (fun _ _ => rfl)) pa_nil)) (nomark _))
            (pss_one (ps_set (i := 3) scTake.nd rfl (Or.inl rfl) (pe_ix ix_list (pe_ix ix_list (pv 0) pe_int (fun _ _ => rfl)) (pv 2) (fun _ _ => rfl))))
            (pss_one (ps_if (pt_cmpR op_gt (pe_callB call_len_seq (by rfl) ml PySem.boot_len (pa_cons (pe_ix ix_list (pv 0) pe_int (fun _ _ => rfl)) pa_nil)) pe_int (nomark _))
              (pss_one (ps_set (i := 3) scTake.nd rfl (Or.inl rfl) (pe_op op_mod
                (pe_ix ix_list (pe_ix ix_list (pv 0) pe_int (fun _ _ => rfl)) (pe_op op_mod (pe_op op_add (pe_op op_mul (pv 2) pe_int) pe_int) (pe_callB call_len_seq (by rfl) ml PySem.boot_len (pa_cons (pe_ix ix_list (pv 0) pe_int (fun _ _ => rfl)) pa_nil))) (fun _ _ => rfl))
                (pe_op op_add (pe_op op_pow pe_int pe_int) (pv 2))))) pss_nil)))
        (pss_cons (ps_asg (pe_op op_add (pv 2) pe_int) (pg_sub (pv 0) pe_int set_list))
        (pss_one (ps_asg (pe_call GS hr (by rfl) gS FS.kp bS .nil pass0 (pa_cons (pv 3) (pa_cons (pv 2) pa_nil))) (pg_sub (pv 0) pe_int set_list)))))))
        pss_nil)
      (pss_cons (ps_set (i := 4) scTake.nd rfl (Or.inl rfl) (pe_op op_mod (pe_ix ix_list (pv 0) pe_int (fun _ _ => rfl)) (pv 1)))
      (pss_cons (ps_asg (pe_op op_fdivW (pe_ix ix_list (pv 0) pe_int (fun _ _ => rfl)) (pv 1)) (pg_sub (pv 0) pe_int set_list))
      (pss_one (ps_ret (pv 4))))), ?_⟩
    -- what holds behind the if
    refine ⟨fun σ H2 => ∃ (x2 x3 : Option V) (a2 r2 : Int), σ = [some (.ref p), some (.int n), x2, x3, none] ∧ H2 p = some (.lst [.ref c, .int a2, .int r2]) ∧ H2 c = some (.lst (cells.map V.int)) ∧ 0 ≤ a2 ∧ a2 ≤ (t : Int) + 1 ∧ But p H H2, ?_, ?_⟩
    · refine ⟨_, rfl, p, _, 2, .int r1, rfl, rfl, SqL.of hp, atI_nat (j := 2) rfl, _, rfl, _, _, rfl, rfl, _, rfl, ite2 (fun _ => ?_) (fun _ => ?_)⟩
      · refine ⟨_, rfl, p, _, 1, .int a1, rfl, rfl, SqL.of hp, atI_nat (j := 1) rfl, ?_⟩
        -- at, cell
        refine ⟨fun σ H2 => ∃ z : Int, σ = [some (.ref p), some (.int n), some (.int a1), some (.int z), none] ∧ H2 = H, ?_, ?_⟩
        · refine ⟨_, rfl, _, rfl, p, _, 0, .ref c, rfl, rfl, SqL.of hp, atI_nat (j := 0) rfl, c, _, rfl, .inl (SqL.of hc), _, _, rfl, rfl, _, rfl, ite2 (fun e => ?_) (fun e => ?_)⟩
          · have e1 : a1 < ((cells.map V.int).length : Int) := of_decide_eq_true e
            rw [mapInt_len] at e1
            obtain ⟨v, hv⟩ := nat_at a10 e1
            exact ⟨_, rfl, p, _, 0, .ref c, rfl, rfl, SqL.of hp, atI_nat (j := 0) rfl, _, rfl, c, _, a1, .int v, rfl, rfl, SqL.of hc, hv, v, rfl, rfl⟩
          · refine ⟨_, rfl, p, _, 0, .ref c, rfl, rfl, SqL.of hp, atI_nat (j := 0) rfl, c, _, rfl, .inl (SqL.of hc), _, _, rfl, rfl, _, rfl, ite2 (fun e2 => ?_) (fun e2 => ?_)⟩
            · have e3 : 0 < ((cells.map V.int).length : Int) := of_decide_eq_true e2
              have e4 := e3
              rw [mapInt_len] at e4
              obtain ⟨v, hv⟩ := nat_at (Int.emod_nonneg (a1 * 5 + 3) (by omega : (cells.length : Int) ≠ 0)) (Int.emod_lt_of_pos (a1 * 5 + 3) e4)
              rw [← mapInt_len] at hv
              have h17 : (0 : Int) < 10 ^ (17 : Int).toNat + a1 := by
                have : (0 : Int) < 10 ^ (17 : Int).toNat := by decide
                omega
              exact ⟨_, rfl, p, _, 0, .ref c, rfl, rfl, SqL.of hp, atI_nat (j := 0) rfl, _, rfl, _, _, rfl, rfl, .inl ⟨by omega, by omega⟩, _, _, rfl, rfl, _, rfl, p, _, 0, .ref c, rfl, rfl, SqL.of hp, atI_nat (j := 0) rfl, c, _, rfl, .inl (SqL.of hc), _, _, rfl, rfl, e3,
                c, _, _, .int v, rfl, rfl, SqL.of hc, hv, _, _, rfl, rfl, ⟨by decide, by decide, by decide⟩, _, rfl, _, _, rfl, rfl, _, _, rfl, rfl, h17, _, rfl, rfl⟩
            · exact ⟨0, rfl, rfl⟩
        · rintro σ H2 ⟨z, rfl, rfl⟩
          refine ⟨_, rfl, _, _, rfl, rfl, _, rfl, p, _, _, 1, rfl, rfl, hp, rfl, ?_⟩
          refine ⟨_, rfl, _, rfl, z, a1, rfl, a10, by omega, fun r H3 e3 => ?_⟩
          have hp3 : H3 p = some (.lst [.ref c, .int (a1 + 1), .int r1]) := e3 _ _ upd_same
          refine ⟨_, rfl, p, _, _, 2, rfl, rfl, hp3, rfl, ?_⟩
          refine ⟨_, _, a1 + 1, r, rfl, upd_same, ?_, by omega, by omega, (But.upd.trans (But.of e3)).trans But.upd⟩
          rw [upd_ne ncp]
          exact e3 _ _ (by rw [upd_ne ncp]; exact hc)
      · exact ⟨none, none, a1, r1, rfl, hp, hc, a10, by omega, fun b o _ e => e⟩
    · rintro σ H2 ⟨x2, x3, a2, r2, rfl, hp2, hc2, a20, a21, bt⟩
      refine ⟨_, rfl, p, _, 2, .int r2, rfl, rfl, SqL.of hp2, atI_nat (j := 2) rfl, _, rfl, _, _, rfl, rfl, n0, ?_⟩
      refine ⟨_, rfl, p, _, 2, .int r2, rfl, rfl, SqL.of hp2, atI_nat (j := 2) rfl, _, rfl, _, _, rfl, rfl, wide_div n0 nb (by decide) (by decide), ?_⟩
      refine ⟨_, rfl, p, _, _, 2, rfl, rfl, hp2, rfl, ?_⟩
      exact ⟨_, rfl, k _ _ (Int.emod_nonneg _ (by omega)) (Int.emod_lt_of_pos _ n0) (bt.trans But.upd) ⟨cells, a2, r2 / n, upd_same, by rw [upd_ne ncp]; exact hc2, a20, by omega⟩⟩

theorem ok_take {f fS : Addr} {fd fdS : FuncData} (F : Fun K "_law_take" "_law_take" sTake f fd) (ml : mg "len" = none) (FS : Fun K "_law_spread" "_law_spread" sSpread fS fdS) (bS : Binds K fdS ["cell", "at"] []) (gS : mg "_law_spread" = some (.ref fS)) :
    FnOk P w K mg base CX0 2 f fd ["pen", "many"] spTake := (ok_takeC F ml FS bS gS).imp fun vs H Q E h => by
  obtain ⟨p, n, t, h1, h2, h3, PA, h4, k⟩ := h
  obtain ⟨c, PC⟩ := PA.c
  exact ⟨p, c, n, t, h1, h2, h3, PC, h4, fun m H' a b d e => k m H' a b d e.any⟩
theorem scOpen : FnScope ["script", "cells", "k", "cell"] ["script"] (defScope sOpen) := ⟨rfl, rfl, rfl, by decide +kernel, rfl, by decide +kernel, by decide +kernel⟩
theorem cut_ints (ns : List Int) (lo hi : Option Int) : ∃ ms : List Int, cutV (ns.map V.int) lo hi = ms.map V.int ∧ ms = (ns.drop (HT.sIx ns.length 0 lo)).take (HT.sIx ns.length ns.length hi - HT.sIx ns.length 0 lo) := by
  refine ⟨_, ?_, rfl⟩
  unfold cutV
  rw [List.length_map, List.map_take, List.map_drop]
theorem sIx_nat (n : Nat) (d : Nat) (k : Nat) : HT.sIx n d (some (k : Int)) = min k n := by
  unfold HT.sIx
  simp only
  rw [if_neg (by omega)]
  omega
theorem cut12 (ns : List Int) : ∃ ms : List Int, cutV (ns.map V.int) none (some 12) = ms.map V.int ∧ ms.length = min 12 ns.length := by
  obtain ⟨ms, h1, h2⟩ := cut_ints ns none (some 12)
  refine ⟨ms, h1, ?_⟩
  rw [h2, List.length_take, List.length_drop]
  have a1 : HT.sIx ns.length 0 none = 0 := rfl
  have a2 : HT.sIx ns.length ns.length (some 12) = min 12 ns.length := sIx_nat _ _ 12
  rw [a1, a2]; omega
theorem cut63 (ns : List Int) : ∃ ms : List Int, cutV (ns.map V.int) (some 12) (some 63) = ms.map V.int ∧ ms.length ≤ ns.length - 12 := by
  obtain ⟨ms, h1, h2⟩ := cut_ints ns (some 12) (some 63)
  refine ⟨ms, h1, ?_⟩
  rw [h2, List.length_take, List.length_drop]
  have a1 : HT.sIx ns.length 0 (some 12) = min 12 ns.length := sIx_nat _ _ 12
  have a2 : HT.sIx ns.length ns.length (some 63) = min 63 ns.length := sIx_nat _ _ 63
  rw [a1, a2]; omega
theorem set_ints (ns : List Int) (j : Nat) (v : Int) : (ns.map V.int).set j (.int v) = (ns.set j v).map V.int := by rw [List.map_set]
theorem ok_open {f : Addr} {fd : FuncData} (F : Fun K "_law_open" "_law_open" sOpen f fd) (m1 : mg "list" = none) (m2 : mg "enumerate" = none) : FnOk P w K mg base CX0 1 f fd ["script"] (spOpen K) := by
  refine F.ok scOpen (fun vs H Q E h => ?_) (fun cdv A outer s H vs Q E hr h => ?_)
  · obtain ⟨a, ns, rfl, _⟩ := h
    rfl
  · obtain ⟨a, ns, rfl, hS, hl, k⟩ := h
    refine ⟨_, pss_cons (ps_set (i := 1) scOpen.nd rfl (Or.inl rfl) (pe_callTy call_list_of (by rfl) m1 boot_list (pa_cons (pe_slice sl_list (pv 0) po_none (po_some pe_int)) pa_nil)))
      (pss_cons (ps_for PassesOwn.never rfl (pi_enum (by rfl) m2 (pa_cons (pe_slice sl_list (pv 0) (po_some pe_int) (po_some pe_int)) pa_nil))
        (pg_tup (by rfl) (pgs_cons (pg_name (i := 2) scOpen.nd rfl (Or.inl rfl)) (pgs_cons (pg_name (i := 3) scOpen.nd rfl (Or.inl rfl)) pgs_nil)))
        (pss_one (ps_asg (pe_op op_add (pe_ix ix_list (pv 1) (pe_op op_mod (pv 2) pe_int) (fun _ _ => rfl)) (pv 3)) (pg_sub (pv 1) (pe_op op_mod (pv 2) pe_int) set_list))))
      (pss_one (ps_ret (pe_lst (pa_cons (pv 1) (pa_cons pe_int (pa_cons pe_int pa_nil))))))), ?_⟩
    obtain ⟨ms, e1, l1⟩ := cut12 ns
    obtain ⟨us, e2, l2⟩ := cut63 ns
    refine ⟨_, rfl, 12, rfl, a, _, rfl, hS, fun p1 n1 => ?_⟩
    rw [e1]
    refine ⟨p1, _, rfl, .inl (SqL.of upd_same), fun c nc => ?_⟩
    have s1 : Same H (upd (upd H p1 (.lst (ms.map V.int))) c (.lst (ms.map V.int))) := (Same.upd n1).trans (Same.upd nc)
    refine ⟨_, rfl, 12, rfl, 63, rfl, a, _, rfl, s1.seq hS, fun p2 n2 => ?_⟩
    rw [e2]
    have nc2 : c ≠ p2 := ne_of_none upd_same n2
    refine ⟨p2, us.map V.int, rfl, SqL.of upd_same, for_it (walk_enum (K := K) (a := p2) (xs := us.map V.int)) (fun i σ H2 => ∃ (x2 x3 : Option V) (cs : List Int), σ = [some (.ref a), some (.ref c), x2, x3] ∧ H2 c = some (.lst (cs.map V.int)) ∧ cs.length = ms.length ∧
        (∀ b o, b ≠ c → upd (upd (upd H p1 (.lst (ms.map V.int))) c (.lst (ms.map V.int))) p2 (.lst (us.map V.int)) b = some o → H2 b = some o)) ?_ ?_ ?_ ?_⟩
    · exact ⟨none, none, ms, rfl, by rw [upd_ne nc2]; exact upd_same, rfl, fun _ _ _ e => e⟩
    · rintro i σ H2 hi ⟨x2, x3, cs, rfl, hc, hl, hk⟩
      exact SqL.of (hk _ _ nc2.symm upd_same)
    · rintro i x σ H2 H3 hi ⟨x2, x3, cs, rfl, hc, hlc, hk⟩ ⟨T, y, z, rfl, hT, rfl, ey, ez⟩
      obtain rfl : V.int ((i : Nat) : Int) = y := Option.some.inj ey
      have hi' : i < us.length := by rw [List.length_map] at hi; exact hi
      obtain ⟨v, rfl⟩ : ∃ v, z = V.int v := by
        have ez' : (us.map V.int)[i]? = some z := ez
        rw [List.getElem?_map, List.getElem?_eq_getElem hi'] at ez'
        exact ⟨us[i], (Option.some.inj ez').symm⟩
      have m12 : ms.length = 12 := by omega
      have hcT : c ≠ T := ne_of_none hc hT
      have b0 := Int.emod_nonneg ((i : Nat) : Int) (show (12 : Int) ≠ 0 by decide)
      have b1 := Int.emod_lt_of_pos ((i : Nat) : Int) (show (0 : Int) < 12 by decide)
      obtain ⟨u, hu⟩ := nat_at (xs := cs) b0 (by omega)
      refine ⟨T, _, rfl, SqT.of upd_same, rfl, _, _, rfl, _, _, rfl, rfl, ?_⟩
      refine ⟨_, rfl, _, rfl, _, _, rfl, rfl, (by show (0 : Int) < 12; decide), c, _, _, _, rfl, rfl, SqL.of (by rw [upd_ne hcT]; exact hc), hu, _, rfl, _, _, rfl, rfl, ?_⟩
      have hj : ixN (cs.map V.int).length (((i : Nat) : Int) % 12) = some (((i : Nat) : Int) % 12).toNat := by
        unfold ixN
        rw [List.length_map, if_pos b0, if_pos (by omega)]
      refine ⟨_, rfl, _, rfl, _, _, rfl, rfl, (by show (0 : Int) < 12; decide), c, _, _, _, rfl, rfl, (by rw [upd_ne hcT]; exact hc), hj, ?_⟩
      refine ⟨_, _, cs.set (((i : Nat) : Int) % 12).toNat (u + v), rfl, by rw [upd_same, set_ints], by rw [List.length_set]; exact hlc, fun b o hb e => ?_⟩
      rw [upd_ne hb, upd_ne (ne_of_none (hk b o hb e) hT)]
      exact hk b o hb e
    · rintro σ H2 ⟨x2, x3, cs, rfl, hc, hlc, hk⟩
      refine ⟨_, rfl, (by show 3 ≤ sizeLine; decide), fun p np => ?_⟩
      have sH : Same H H2 := fun b o e => hk b o (ne_of_none (Same.upd n1 b o e) nc) ((s1.trans (Same.upd n2)) b o e)
      have ncp : c ≠ p := ne_of_none hc np
      exact k p _ (sH.free np) (sH.trans (Same.upd np)) ⟨c, cs, 0, 0, upd_same, by rw [upd_ne ncp]; exact hc, by decide, by decide⟩
end
end My

namespace My
open PySem PySem.Spec PyProof.Rows L2
/-! ### t[::-1] -/
section
variable {prog : Program} {w : World} {A : Around} {E : Value → Shared → Prop} {s : Shared}
theorem backwards (xs : Array Value) : ((List.range xs.size).filterMap fun (m : Nat) => xs[((xs.size : Int) - 1 + (m : Int) * -1).toNat]?).toArray = xs.toList.reverse.toArray := by
  have e1 : (List.range xs.size).filterMap (fun (m : Nat) => xs[((xs.size : Int) - 1 + (m : Int) * -1).toNat]?) = ((List.range xs.size).map fun k => xs.size - 1 - k).filterMap (xs[·]?) := by
    rw [List.filterMap_map]
    congr 1
    funext m
    show _ = xs[xs.size - 1 - m]?
    have : ((xs.size : Int) - 1 + (m : Int) * -1).toNat = xs.size - 1 - m := by omega
    rw [this]
  rw [e1, PySem.W.krv_range, List.filterMap_reverse, PySem.W.krv_all]
theorem getItem_back {t sl : Addr} {items : Array Value} {tk : Tok} {Q : Value → Shared → Prop} (ht : IsTup s.heap t items) (hs : s.heap.IsSliceOf sl .none .none (.int (-1) tk)) (hsz : items.size ≤ sizeLine)
    (q : Q (.ref s.heap.objs.size) { s with heap := s.heap.push { cls := .type "tuple", data := .seq items.toList.reverse.toArray } }) : wpAny (model prog w) A (getItem (.ref t) (.ref sl)) Q E s := by
  have hfit : sizeOk (.seq items.toList.reverse.toArray) := by show items.toList.reverse.toArray.size ≤ sizeLine; simpa using hsz
  obtain ⟨ob, hob, hcl, hdat⟩ := id hs
  have hT : s.TypeIs (.ref sl) "slice" := ⟨ob, hob, hcl⟩
  unfold getItem; try with_reducible refine wpAny_holding ?_
  first | refine wpAny_bind (wpAny_pure ?_) | skip
  refine wpAny_bind (wpAny_sequenceKey ht.typeIs (by decide) ?_); refine wpAny_bind (wpAny_callSpecial?_slot (name := Str.ofString "__getitem__") ht.typeIs slot_tuple_getitem (wpAny_call_entry slot_tuple_getitem ht.typeIs entry_tuple_getitem ?_ (args_tuple_getitem _ _)))
  show wpAny _ _ (Builtin.Tuple.tupleItemsOf (.ref t) >>= _) _ _ s; refine wpAny_bind (tupleItemsOf_ ht ?_); refine wpAny_bind (wpAny_typeOf hT ?_); rw [if_pos (by decide)]
  have step : ∀ {R : Int × Int × Nat → Shared → Prop}, R ((items.size : Int) - 1, -1, items.size) s → wpAny (model prog w) A.in1 (Builtin.Slice.sliceApplied (.ref sl) (pure (items.size : Int))) R E s := by
    intro R hR; unfold Builtin.Slice.sliceApplied Builtin.Slice.sliceFields
    refine wpAny_bind (wpAny_bind (wpAny_field hob hdat (x := .none) rfl (wpAny_bind (wpAny_field hob hdat (x := .none) rfl (wpAny_bind (wpAny_field hob hdat (x := .int (-1) tk) rfl (wpAny_pure ?_)))))))
    refine wpAny_bind (slicePart_int ?_); show wpAny _ _ (if ((-1 : Int) == 0) = true then _ else _) _ _ s; rw [if_neg (by decide)]
    refine wpAny_bind (PyProof.Rows.slicePart_none (wpAny_bind (PyProof.Rows.slicePart_none (wpAny_bind (wpAny_pure ?_)))))
    show wpAny _ _ (match Builtin.Slice.sliceAdjust none none (-1) (items.size : Int) with | (lo, hi) => pure (lo, (-1 : Int), Builtin.Slice.slicePlaces lo hi (-1))) _ _ s
    have e1 : Builtin.Slice.sliceAdjust none none (-1) (items.size : Int) = ((items.size : Int) - 1, -1) := rfl
    rw [e1]; show wpAny _ _ (pure ((items.size : Int) - 1, (-1 : Int), Builtin.Slice.slicePlaces ((items.size : Int) - 1) (-1) (-1))) _ _ s
    have e2 : Builtin.Slice.slicePlaces ((items.size : Int) - 1) (-1) (-1) = items.size := by
      unfold Builtin.Slice.slicePlaces
      have h1 : ¬ ((-1 : Int) > 0) := by decide
      simp only [h1, if_false]
      by_cases h : (items.size : Int) - 1 > -1
      · rw [if_pos h, show (- -1 : Int) = 1 by decide, Int.ediv_one]; omega
      · rw [if_neg h]; omega
    rw [e2]; exact wpAny_pure hR
  refine wpAny_bind (step ?_)
  show wpAny _ _ (if (((items.size : Int) - 1) == 0 && (-1 : Int) == 1 && items.size == items.size) = true then _ else _) _ _ s
  rw [if_neg (by rw [show ((-1 : Int) == 1) = false by decide, Bool.and_false, Bool.false_and]; decide), backwards]
  first
    | exact wpAny_bind (m := Builtin.Tuple.tupleExact _) (wpAny_newObj_type (wpAny_pure ⟨_, rfl, wpAny_pure q⟩) hfit)
    | exact wpAny_bind (m := Builtin.Tuple.tupleExact _) (wpAny_newObj_type (wpAny_bind (wpAny_pure (wpAny_pure ⟨_, rfl, wpAny_pure q⟩))) hfit)
    | exact wpAny_bind (wpAny_bind (m := Builtin.Tuple.tupleExact _) (wpAny_newObj_type (wpAny_pure (wpAny_pure ⟨_, rfl, wpAny_pure q⟩)) hfit))
    | exact wpAny_bind (wpAny_bind (m := Builtin.Tuple.tupleExact _) (wpAny_newObj_type (wpAny_pure ⟨_, rfl, wpAny_pure q⟩) hfit))
end
section
variable {X : Cx}
def tRevT (K : PySem.W.Frag) (te : TE) : TE := fun σ H Q => te σ H fun x H1 => ∃ a xs, x = .ref a ∧ SqT K H1 a xs ∧ ∀ p, H1 p = none → Q (.ref p) (upd H1 p (.tup xs.reverse))
theorem pe_revT {e : Expr} {te : TE} {k : Nat} {p1 p2 p3 pos : Pos} (he : PE X e te) : PE X (.Subscript e (.Slice none none (some (.UnaryOp .USub (.Constant (.int 1) k p1) p2)) p3) pos) (tRevT X.K te) := by
  refine ⟨fun pins s σ H Q I h => ?_⟩
  refine Subscript_ (thn (he.run pins s σ H _ I h) fun v s1 ⟨x, H1, I1, r1, q1⟩ => ?_)
  obtain ⟨a, xs, ex, hx, q⟩ := q1
  subst ex; cases r1
  have hst : PO X (some (.UnaryOp .USub (.Constant (.int 1) k p1) p2)) (tPart (tUn (rU fun i => .int (-i)) (tC (.int 1)))) := po_some (pe_un un_neg pe_int)
  refine wpAny_Slice (thn (po_none.run pins s1 σ H1 (fun o H2 => o = none ∧ H2 = H1) I1 ⟨rfl, rfl⟩) fun vl s2 ⟨l, H2, I2, pl, el, e2⟩ => ?_)
  subst el e2
  refine thn (po_none.run pins s2 σ H2 (fun o H3 => o = none ∧ H3 = H2) I2 ⟨rfl, rfl⟩) fun vu s3 ⟨u, H3, I3, pu, eu, e3⟩ => ?_
  subst eu e3
  refine thn (hst.run pins s3 σ H3 (fun o H4 => o = some (-1) ∧ H4 = H3) I3 ⟨1, rfl, -1, rfl, rfl, rfl⟩) fun vs s4 ⟨o, H4, I4, ps, eo, e4⟩ => ?_
  subst eo e4
  cases pl; cases pu; cases ps with
  | int i tk =>
  have J : Inv X pins σ H4 { s4 with heap := s4.heap.push { cls := .type "slice", data := .fields #[.none, .none, .int (-1) tk] } } := I4.kept (t' := s4.toks) fun b ob q => Heap.get?_push_of_some _ q
  obtain ⟨its, r, ht, hz⟩ := J.tuple hx
  have hl := r.length
  show wpAny (model X.prog X.w) X.A (subscriptTail e (.Slice none none (some (.UnaryOp .USub (.Constant (.int 1) k p1) p2)) p3) (.ref a) (.ref s4.heap.objs.size)) (EP X pins σ Q) X.xe { s4 with heap := s4.heap.push { cls := .type "slice", data := .fields #[.none, .none, .int (-1) tk] } }
  refine tail_any (ops := [.ref a, .ref s4.heap.objs.size]) ht.typeIs (slot_tuple_getitem.lookup) ?_ (by with_unfolding_all rfl)
  refine getItem_back ht (Heap.IsSliceOf.new _ .none .none (.int (-1) tk)) (by rw [List.size_toArray]; omega) ?_
  refine ⟨.ref _, _, J.laid (t' := s4.toks) (o := .tup xs.reverse) (fun b ob q => Heap.get?_push_of_some _ q) (Nat.le_refl _) ?_, rfl, q _ (J.hok.fresh (Nat.le_refl _))⟩
  exact ⟨by rw [List.length_reverse]; exact hz, _, r.reverse, IsTup.new _ _⟩
end
/-! ### repr -/
section
variable {X : Cx}
def rRepr (K : PySem.W.Frag) : List V → Hp → VK → Prop := fun xs H Q => ∃ (v : V) (d : PyData) (G : Hp), xs = [v] ∧ Same G H ∧ Dq K G v d ∧ d.showable = true ∧ (d.hasDict = true → hasList d = false) ∧ d.depth ≤ 100 ∧ d.shown.length ≤ sizeLine ∧ Q (.str d.shown) H
theorem cr_repr (hg : X.A.guards = some []) (hu : X.A.units + 111 < cLine) : CallR X (.builtin "repr") (rRepr X.K) := by
  intro pins s σ H xs us Q I r h
  obtain ⟨v, d, G, rfl, e, h, hs, hm, hd, hz, q⟩ := h
  have h' := h.mono e
  have key : ∀ a : Addr, us = [.ref a] → RelV v (.ref a) → wpAny (model X.prog X.w) X.A (call (.builtin "repr") us) (EP X pins σ Q) X.xe s := fun a ea ra => by
    subst ea
    obtain ⟨as, hr, hn⟩ := Dq.reads I d v _ h' ra
    exact repr_of_reads' hr hs (fun z => hn (hm z)) hg (by omega) (fun _ _ e => e) (fun h2 u tk hk => ⟨.str _, H, I.kept hk, ⟨_, rfl⟩, q⟩) hz
  cases r with
  | cons r0 rr =>
    cases rr
    cases h with
    | non => cases r0; exact PySem.P.repr_of_none ⟨.str _, H, I.tok _, ⟨_, rfl⟩, q⟩
    | bl b => cases r0; exact PySem.P.repr_of_bool ⟨.str _, H, I.tok _, ⟨_, rfl⟩, q⟩
    | int i =>
      obtain ⟨t, rfl⟩ := r0
      exact PySem.P.repr_of_int (by simpa [PyData.showable] using hs) ⟨.str _, H, I.tok _, ⟨_, rfl⟩, q⟩
    | str x =>
      obtain ⟨t, rfl⟩ := r0
      exact PySem.P.repr_of_str ⟨.str _, H, I.tok _, ⟨_, rfl⟩, q⟩ hz
    | lst _ _ => cases r0; exact key _ rfl rfl
    | tup _ _ => cases r0; exact key _ rfl rfl
    | dct _ _ _ => cases r0; exact key _ rfl rfl
end
/-! ### data made by an expression -/
structure Nw (G H G' H' : Hp) : Prop where
  gg : Same G G'
  gh : Same G' H'
  hh : Same H H'
  old : ∀ b, H b ≠ none → G' b = G b
theorem Nw.refl {G H : Hp} (e : Same G H) : Nw G H G H := ⟨Same.refl _, e, Same.refl _, fun _ _ => rfl⟩
theorem Nw.trans {G H G1 H1 G2 H2 : Hp} (a : Nw G H G1 H1) (b : Nw G1 H1 G2 H2) : Nw G H G2 H2 := by
  refine ⟨a.gg.trans b.gg, b.gh, a.hh.trans b.hh, fun c h => ?_⟩
  have h1 : H1 c ≠ none := by
    cases q : H c with
    | none => exact absurd q h
    | some o => rw [a.hh c o q]; exact fun z => nomatch z
  rw [b.old c h1, a.old c h]
theorem Nw.mk1 {G H : Hp} (e : Same G H) {p : Addr} (n : H p = none) (o : HO) : Nw G H (upd G p o) (upd H p o) := by
  refine ⟨Same.upd (e.free n), fun b u h => ?_, Same.upd n, fun b h => upd_ne (fun z => h (by rw [z]; exact n))⟩
  by_cases hb : b = p
  · subst hb; rw [upd_same] at h ⊢; exact h
  · rw [upd_ne hb] at h ⊢; exact e b u h
theorem PE.imp {X : Cx} {e : Expr} {t t' : TE} (h : PE X e t) (i : ∀ σ H Q, t' σ H Q → t σ H Q) : PE X e t' := ⟨fun pins s σ H Q I q => h.run pins s σ H Q I (i σ H Q q)⟩
theorem PA.imp {X : Cx} {es : List Expr} {t t' : TA} (h : PA X es t) (i : ∀ σ H Q, t' σ H Q → t σ H Q) : PA X es t' := ⟨fun pos pins s σ H Q I q => h.run pos pins s σ H Q I (i σ H Q q)⟩
def tDc (K : PySem.W.Frag) (d : PyData) : TE := fun _ H Q => ∃ G, Same G H ∧ ∀ v G' H', Nw G H G' H' → Dq K G' v d → Q v H'
def tDcs (K : PySem.W.Frag) (ds : List PyData) : TA := fun _ H Q => ∃ G, Same G H ∧ ∀ vs G' H', Nw G H G' H' → DqAll K G' vs ds → Q vs H'
section
variable {X : Cx} {pos : Pos}
theorem dc_int {i : Int} {j : Nat} : PE X (.Constant (.int i) j pos) (tDc X.K (.int i)) := PE.imp pe_int fun _ _ _ ⟨_, e, k⟩ => k _ _ _ (Nw.refl e) (.int i)
theorem dc_str {x : Str} {j : Nat} : PE X (.Constant (.str x) j pos) (tDc X.K (.str x)) := PE.imp pe_str fun _ _ _ ⟨_, e, k⟩ => k _ _ _ (Nw.refl e) (.str x)
theorem dc_bl {b : Bool} {j : Nat} : PE X (.Constant (.bool b) j pos) (tDc X.K (.bool b)) := PE.imp pe_bl fun _ _ _ ⟨_, e, k⟩ => k _ _ _ (Nw.refl e) (.bl b)
theorem dc_non {j : Nat} : PE X (.Constant .none j pos) (tDc X.K .none) := PE.imp pe_non fun _ _ _ ⟨_, e, k⟩ => k _ _ _ (Nw.refl e) .non
theorem dc_neg {i : Int} {j : Nat} {p : Pos} : PE X (.UnaryOp .USub (.Constant (.int i) j p) pos) (tDc X.K (.int (-i))) := PE.imp (pe_un un_neg pe_int) fun _ _ _ ⟨_, e, k⟩ => ⟨i, rfl, k _ _ _ (Nw.refl e) (.int _)⟩
theorem dc_pow {i j : Int} {a b : Nat} {p q : Pos} (h : CPow i j) : PE X (.BinOp (.Constant (.int i) a p) .Pow (.Constant (.int j) b q) pos) (tDc X.K (.int (i ^ j.toNat))) :=
  PE.imp (pe_op op_pow pe_int pe_int) fun _ _ _ ⟨_, e, k⟩ => ⟨i, j, rfl, rfl, h, k _ _ _ (Nw.refl e) (.int _)⟩
theorem das_nil : PA X [] (tDcs X.K []) := PA.imp pa_nil fun _ _ _ ⟨_, e, k⟩ => k _ _ _ (Nw.refl e) .nil
theorem das_cons {e : Expr} {es : List Expr} {d : PyData} {ds : List PyData} (h1 : PE X e (tDc X.K d)) (h2 : PA X es (tDcs X.K ds)) (hs : starEach (e :: es) X.env = (false, eval e X.env) :: starEach es X.env := by rfl) : PA X (e :: es) (tDcs X.K (d :: ds)) :=
  PA.imp (pa_cons h1 h2 hs) fun _ _ _ ⟨G, e, k⟩ => ⟨G, e, fun _ G1 _ n1 d1 => ⟨G1, n1.gh, fun _ _ _ n2 d2 => k _ _ _ (n1.trans n2) (.cons (d1.mono n2.gg) d2)⟩⟩
theorem dc_tup {es : List Expr} {ds : List PyData} {x1} (h : PA X es (tDcs X.K ds)) (hl : ds.length ≤ sizeLine) : PE X (.Tuple es x1 pos) (tDc X.K (.tuple ds)) :=
  PE.imp (pe_tup h) fun _ _ _ ⟨G, e, k⟩ => ⟨G, e, fun vs G1 H1 n1 d1 => ⟨by rw [d1.len]; exact hl, fun p np => k _ _ _ (n1.trans (Nw.mk1 n1.gh np (.tup vs))) (.tup upd_same (d1.mono (Nw.mk1 n1.gh np (.tup vs)).gg))⟩⟩
theorem dc_lst {es : List Expr} {ds : List PyData} (h : PA X es (tDcs X.K ds)) (hl : ds.length ≤ sizeLine) : PE X (.List es pos) (tDc X.K (.list ds)) :=
  PE.imp (pe_lst h) fun _ _ _ ⟨G, e, k⟩ => ⟨G, e, fun vs G1 H1 n1 d1 => ⟨by rw [d1.len]; exact hl, fun p np => k _ _ _ (n1.trans (Nw.mk1 n1.gh np (.lst vs))) (.lst upd_same (d1.mono (Nw.mk1 n1.gh np (.lst vs)).gg))⟩⟩
theorem dc_dict0 : PE X (.Dict [] [] pos) (tDc X.K (.dict [])) :=
  PE.imp pe_dnewK fun _ _ _ ⟨G, e, k⟩ => fun p np => k _ _ _ (Nw.mk1 e np (.dK [])) (.dct upd_same .nil .nil)
theorem dc_dict01 {a b c d : Nat} {p1 p2 p3 p4 : Pos} : PE X (.Dict [some (.Constant (.int 0) a p1), some (.Constant (.int 1) b p2)] [.Constant (.int 1) c p3, .Constant (.int 1) d p4] pos) (tDc X.K (.dict [(.int 0, .int 1), (.int 1, .int 1)])) := by
  refine PE.imp (pe_disp (pps_cons pe_int pe_int (pps_cons pe_int pe_int pps_nil)) rfl rfl (by simp) (by show 2 ≤ 15; decide)) fun _ H Q ⟨G, e, k⟩ => fun p np => ?_
  refine ⟨upd_same, [(.inl 0, .int 1), (.inl 1, .int 1)], rfl, by decide, ?_⟩
  rw [upd_upd]
  exact k _ _ _ (Nw.mk1 e np (.dK [(.inl 0, .int 1), (.inl 1, .int 1)])) (.dct upd_same (.cons (.int _) (.cons (.int _) .nil)) (.cons (.int _) (.cons (.int _) .nil)))
end
/-! ### types of data -/
def tyN : PyData → String
  | .none => "NoneType"
  | .bool _ => "bool"
  | .int _ => "int"
  | .str _ => "str"
  | .list _ => "list"
  | .tuple _ => "tuple"
  | .dict _ => "dict"
theorem Dq.ty {K : PySem.W.Frag} {G H : Hp} (e : Same G H) : ∀ {v : V} {d : PyData}, Dq K G v d → TyX K H v (.type (tyN d))
  | _, _, .non => .base .non
  | _, _, .bl b => .base (.bl b)
  | _, _, .int i => .base (.int i)
  | _, _, .str x => .base (.str x)
  | _, _, .lst h _ => .base (.lst (e _ _ h))
  | _, _, .tup h _ => .base (.tup (e _ _ h))
  | _, _, .dct h _ _ => .base (.dK (e _ _ h))
def isT (T : String) (d : PyData) : Bool := tyN d == T
theorem kit_int : ∀ d : PyData, kitB (tyN d) "int" = some (isT "int" d || isT "bool" d)
  | .none => by decide +kernel
  | .bool _ => (by decide +kernel : kitB "bool" "int" = some true)
  | .int _ => (by decide +kernel : kitB "int" "int" = some true)
  | .str _ => (by decide +kernel : kitB "str" "int" = some false)
  | .list _ => (by decide +kernel : kitB "list" "int" = some false)
  | .tuple _ => (by decide +kernel : kitB "tuple" "int" = some false)
  | .dict _ => (by decide +kernel : kitB "dict" "int" = some false)
theorem kit_bool : ∀ d : PyData, kitB (tyN d) "bool" = some (isT "bool" d)
  | .none => by decide +kernel
  | .bool _ => (by decide +kernel : kitB "bool" "bool" = some true)
  | .int _ => (by decide +kernel : kitB "int" "bool" = some false)
  | .str _ => (by decide +kernel : kitB "str" "bool" = some false)
  | .list _ => (by decide +kernel : kitB "list" "bool" = some false)
  | .tuple _ => (by decide +kernel : kitB "tuple" "bool" = some false)
  | .dict _ => (by decide +kernel : kitB "dict" "bool" = some false)
theorem kit_tuple : ∀ d : PyData, kitB (tyN d) "tuple" = some (isT "tuple" d)
  | .none => by decide +kernel
  | .bool _ => (by decide +kernel : kitB "bool" "tuple" = some false)
  | .int _ => (by decide +kernel : kitB "int" "tuple" = some false)
  | .str _ => (by decide +kernel : kitB "str" "tuple" = some false)
  | .list _ => (by decide +kernel : kitB "list" "tuple" = some false)
  | .tuple _ => (by decide +kernel : kitB "tuple" "tuple" = some true)
  | .dict _ => (by decide +kernel : kitB "dict" "tuple" = some false)
theorem isi_read {K : PySem.W.Frag} {G H : Hp} {v : V} {d : PyData} {T : String} {b : Bool} {Q : VK} (e : Same G H) (h : Dq K G v d) (hk : kitB (tyN d) T = some b) (q : Q (.bl b) H) : rIsi K [v, .ty T] H Q :=
  ⟨v, .ty T, .type (tyN d), .type T, b, rfl, .ty T, h.ty e, kit_ty hk, q⟩
theorem PenAt.some {H : Hp} {p : Addr} {t : Nat} (h : PenAt H p t) : H p ≠ none := by
  obtain ⟨c, cells, x, y, h1, _⟩ := h.ex
  rw [h1]; exact fun z => nomatch z
theorem pen_not {H : Hp} {p l : Addr} {t : Nat} (h : PenAt H p t) (n : H l = none) : l ≠ p := fun z => h.some (by rw [← z]; exact n)
theorem keep_ne {H H1 : Hp} (e : Same H H1) {c : Addr} (h : H c ≠ none) : H1 c ≠ none := by
  cases z : H c with
  | none => exact absurd z h
  | some o => rw [e c o z]; exact fun y => nomatch y
theorem lst_new {G H G1 H1 : Hp} (m : Nw G H G1 H1) {q : Addr} (n : H1 q = none) (o : HO) : Nw G H G1 (upd H1 q o) :=
  ⟨m.gg, m.gh.trans (Same.upd n), m.hh.trans (Same.upd n), m.old⟩
theorem same_but {G H H' : Hp} {p : Addr} (e : Same G H) (n : G p = none) (b : But p H H') : Same G H' := fun a o h => b a o (ne_of_none h n) (e a o h)
theorem ifF {c : Bool} {A B : Prop} (h : c = false) (q : B) : if c = true then A else B := by rw [h]; exact iteF q
theorem ifT {c : Bool} {A B : Prop} (h : c = true) (q : A) : if c = true then A else B := by rw [h]; exact iteT q
theorem some_ne {H : Hp} {b : Addr} {o : HO} (h : H b = some o) : H b ≠ none := by rw [h]; exact fun z => nomatch z
theorem same0 (H : Hp) : Same (fun _ => none) H := fun _ _ h => nomatch h
/-! ### the law's own call: what runs around it is known (no repr is under way) -/
def AtTop (P : Program) (w : World) (K : PySem.W.Frag) (mg : Str → Option Value) (base : Heap) (fa : Addr) (fd : FuncData) (ps : List Str) (sp : Sp) : Prop :=
  ∀ (out : List Env) (s : Shared) (H : Hp) (args : Args) (us : List Value) (vs : List V) (Q : VK) (E : XK), Env0 P w K mg base callerA out s H → BindsTo s fd args (ps.zip us) → Vals vs us → sp vs H Q E → codeAny (model P w) callerA (.call (.ref fa) args) (CR CX0 out P w H s Q E) s
theorem top_ok {P : Program} {w : World} {K : PySem.W.Frag} {mg : Str → Option Value} {base : Heap} {x qual : Str} {st : Stmt} {f : Addr} {fd : FuncData} {N ps : List Str} {k : Nat} {sp : Sp} (F : Fun K x qual st f fd) (S : FnScope N ps (defScope st)) (len : ∀ vs H Q E, sp vs H Q E → vs.length = ps.length) (hr : Room (k + 1) callerA)
    (hbody : ∀ (cdv : Value) (out : List Env) (s : Shared) (H : Hp) (vs : List V) (Q : VK) (E : XK), Room k (callerA.deeper (envOfC qual (defScope st) s.heap.objs.size f cdv)) → sp vs H Q E →
      ∃ t, PSs (cxOf CX0 P w K mg base N qual (defScope st) f cdv callerA out s H E).nox (defBody st) t ∧ t { nx := fun _ H' => Q .non H', rt := Q } (start N vs) H) : AtTop P w K mg base f fd ps sp := by
  obtain ⟨oc, od, kV, doc, pm, an, cdv, ct, osl, rfl, lk, hcd⟩ := F.ex
  intro out s H args us vs Q E e0 hb r hsp
  have hl := len _ _ _ _ hsp
  have KI : K.In s.heap := e0.mod.kin.keeps fun b o e => (e0.bs b o e).1
  have nl : s.heap.NoLimit := e0.mod.nolimit.keeps fun b o e => (e0.bs b o e).1
  have hk : ∀ y ∈ ps.zip us, (defScope st).names.lookup y.1 = some .local ∨ ((defScope st).names.lookup y.1 = some .cell ∧ ((cellsFrom (s.heap.objs.size + 1) (defScope st).names []).lookup y.1).isSome = true) := fun ⟨n, v⟩ hy => by
    rcases S.par n (List.of_mem_zip hy).1 with q | q
    · exact .inl q
    · exact .inr ⟨q, PySem.W.cellsFrom_some _ _ _ (.inl q)⟩
  refine codeAny_call_function hr.depth (KI _ _ lk) rfl S.co S.gen rfl (PySem.W.codeRec_of KI hcd) (hb _ _ _ _ ?_)
  refine wpAny_newFunctionEnv_cells S.kind hk fun env he s1 x => ?_
  subst he; refine ⟨nl.keeps x.toInCall.keep, codeAny_func ?_⟩
  obtain ⟨t, ht, hq⟩ := hbody cdv out s H vs Q E (hr.deeper _) hsp
  have I : Inv (cxOf CX0 P w K mg base N qual (defScope st) f cdv callerA out s H E) [] (start N vs) H s1 := inv_start S hr.hd e0 hl r x
  refine wpAny_mono (ht.nox.run [] s1 (start N vs) H _ I hq) (fun fl s' hs => ?_) fun e s' hs => hs
  have fin : ∀ {σ' : L2.St} {H' : Hp} {v : V} {u : Value}, Inv (cxOf CX0 P w K mg base N qual (defScope st) f cdv callerA out s H E) [] σ' H' s' → RelV v u → Q v H' → CE out P w H s Q u s' := fun {σ' H' v u} J rv q => ⟨v, H', J.os, J.bare, J.base, J.hok, rv, q⟩
  cases fl with
  | ret u => obtain ⟨v, σ', H', J, rv, q⟩ := hs; exact fin J rv q
  | next => obtain ⟨σ', H', J, q⟩ := hs; exact fin (v := V.non) (u := Value.none) J rfl q
  | brk => obtain ⟨_, _, _, q⟩ := hs; exact False.elim q
  | cont => obtain ⟨_, _, _, q⟩ := hs; exact False.elim q
theorem top_call {P : Program} {w : World} {K : PySem.W.Frag} {mg mb : Str → Option Value} {fa a : Addr} {fd : FuncData} {x : Str} {sp : Sp} {s₁ : Shared} {us : List Value} {ns : List Int}
    (KX : K.In s₁.heap) (hn : s₁.heap.Ns mainGlobals mg) (hb : s₁.heap.Ns builtinsNs mb) (hbb : ∀ x : Str, x ≠ "__name__" → mb x = bootBuiltins x) (hlim : s₁.heap.NoLimit) (hg : s₁.gens = #[])
    (ha : s₁.heap.get? a = some { cls := .type "list", data := .seq us.toArray }) (hi : IntsAre us ns) (hl : ns.length ≤ sizeLine)
    (F : ∀ base : Heap, K.In base → base.Ns mainGlobals mg → AtTop P w K mg base fa fd [x] sp) (hbind : ∀ (s : Shared) (u : Value), BindsTo s fd ⟨[u], []⟩ [(x, u)])
    (hsp : ∀ H : Hp, Only H → SqL K H a (ns.map V.int) → sp [.ref a] H (fun v _ => v = .bl true) fun _ _ _ => False) :
    codeAny (model P w) callerA (.call (.ref fa) ⟨[.ref a], []⟩) (fun r s' => r = .ok (.ret (.bool true)) ∧ OldK s₁.heap s'.heap ∧ s'.os = s₁.os ∧ AllBare s'.gens) s₁ := by
  have rv := vals_ints hi
  have lenV := hi.length
  have main : ∀ H : Hp, Only H → SqL K H a (ns.map V.int) → HOk P w H s₁.heap → (∀ b, H b ≠ none → b = a) → (H a ≠ none → K.lookup a = none) →
      codeAny (model P w) callerA (.call (.ref fa) ⟨[.ref a], []⟩) (fun r s' => r = .ok (.ret (.bool true)) ∧ OldK s₁.heap s'.heap ∧ s'.os = s₁.os ∧ AllBare s'.gens) s₁ := by
    intro H hO hS hok hA hK
    have free : ∀ b : Addr, b ≠ a → H b = none := fun b n => by
      cases q : H b with
      | none => rfl
      | some u => exact absurd (hA b (by rw [q]; simp)) n
    have noA : ∀ {b : Addr} {o : Obj} {es : Array DictEntry} {ep : Nat}, s₁.heap.get? b = some o → o.data = .dict es ep → H b = none := fun {b o es ep} e d => free b fun z => by
      rw [z, ha] at e; cases e
      exact absurd (show Data.seq us.toArray _ = Data.dict es ep from d) (fun z => nomatch z)
    have nsK : ∀ {b : Addr} {m : Str → Option Value}, s₁.heap.Ns b m → (hidT s₁.heap H).Ns b m := fun {b m} ⟨o, es, ep, e, d, r⟩ => ⟨o, es, ep, hidT_get e (noA e d), d, r⟩
    have hKb : K.In (hidT s₁.heap H) := fun b o e => hidT_get (KX b o e) (by
      cases q : H b with
      | none => rfl
      | some u =>
        have z : b = a := hA b (by rw [q]; simp)
        rw [z] at e q
        rw [hK (by rw [q]; simp)] at e; cases e)
    have hM : Mod K mg (hidT s₁.heap H) := ⟨hKb, nsK hn, ⟨mb, nsK hb, hbb⟩, let ⟨mc, h1, h2⟩ := hlim; ⟨mc, nsK h1, h2⟩⟩
    have e0 : Env0 P w K mg (hidT s₁.heap H) callerA [] s₁ H := ⟨rfl, hM, fun b o e => of_hidT e, Nat.le_of_eq (hidT_size _ _), trivial, fun b hb => (nomatch (show b ∈ ([] : List Addr) from hb)), hok, .of_eq hg⟩
    refine codeAny_mono (F _ hKb (nsK hn) [] s₁ H ⟨[.ref a], []⟩ [.ref a] [.ref a] _ _ e0 (hbind s₁ (.ref a)) (.cons rfl .nil) (hsp H hO hS)) fun r s' h => ?_
    cases r with
    | error e => exact False.elim h
    | ok fl =>
      cases fl with
      | next => exact False.elim h
      | brk => exact False.elim h
      | cont => exact False.elim h
      | ret u =>
        obtain ⟨v, H', os, bare, un, hok', r', q⟩ := h
        obtain rfl : v = .bl true := q
        obtain rfl : u = Value.bool true := r'
        refine ⟨rfl, OldK.of_keep fun b o e => ?_, os, bare⟩
        cases q : H b with
        | none => exact un.keep b o e q (fun z => nomatch (show b ∈ ([] : List Addr) from z)) (by simp)
        | some u =>
          rcases hO b with z | ⟨ob, xs, z⟩
          · rw [q] at z; cases z
          · obtain ⟨e1, _⟩ := hok b _ z
            obtain ⟨e2, _⟩ := hok' b _ (un.frzs b ob _ z)
            rw [e] at e1; cases e1; exact e2
  cases hk : K.lookup a with
  | some o =>
    have e := KX a o hk
    rw [ha] at e; cases e
    exact main (fun _ => none) (fun _ => .inl rfl) (.inr ⟨_, us.toArray, _, hk, rfl, rfl, rfl, by rw [List.size_toArray, lenV]; exact hl, by simpa using rv⟩) (fun b u z => nomatch (show (none : Option HO) = some u from z)) (fun b z => absurd rfl z) fun z => absurd rfl z
  | none =>
    refine main (fun b => if b = a then some (.frz { cls := .type "list", data := .seq us.toArray } (.lst (ns.map V.int))) else none) (fun b => ?_) (.inl (.inr ⟨{ cls := .type "list", data := .seq us.toArray }, if_pos rfl⟩)) (fun b u z => ?_) (fun b z => ?_) fun _ => hk
    · by_cases hb : b = a
      · exact .inr ⟨_, _, if_pos hb⟩
      · exact .inl (if_neg hb)
    · by_cases hb : b = a
      · have z' := (if_pos hb).symm.trans z
        cases z'; subst hb
        exact ⟨ha, by rw [List.length_map]; exact hl, us, _, rv, ha⟩
      · exact nomatch ((if_neg hb).symm.trans z)
    · by_cases hb : b = a
      · exact hb
      · exact absurd (if_neg hb) z
theorem walk_top {l : PySem.W.OpenLaw} {n : Nat} {q : Program} {loose : List Str} {XP : (Str → Option Value) → Heap → Prop} {YP : World → Heap → Prop} {d : DefRec} {K : Params → PySem.W.Frag} {sp : World → Sp} {x : Str}
    (hn : l.most = some n) (hn2 : n ≤ sizeLine) (hdf : d.params.defaults = []) (hY : ∀ (w : World) (h : Heap), YP w h → (K w.params).In h)
    (F : ∀ (w : World) (mg : Str → Option Value) (fa : Addr) (h : Heap), (K w.params).In h → h.Ns mainGlobals mg → mg d.name = some (.ref fa) →
      ∃ fd : FuncData, (∀ (s : Shared) (u : Value), BindsTo s fd ⟨[u], []⟩ [(x, u)]) ∧ ∀ base : Heap, (K w.params).In base → base.Ns mainGlobals mg → AtTop l.prog w (K w.params) mg base fa fd [x] (sp w))
    (hsp : ∀ (w : World) (H : Hp) (a : Addr) (ns : List Int), ns.length ≤ n → Only H → SqL (K w.params) H a (ns.map V.int) → sp w [.ref a] H (fun v _ => v = .bl true) fun _ _ _ => False) :
    PySem.W.WalkO q loose XP YP l.row.toRowW d [] (fun f vs => PySem.call f vs) := by
  refine Att.attach_call hn hdf fun w s₀ s₁ mg mb fa o pm cd doc a us ns G Y ho hd hcd hmg hobj hints hlen hg => ?_
  obtain ⟨fd, hb, hF⟩ := F w mg fa _ (hY w _ Y) G.T.g hmg
  exact top_call (hY w _ Y) G.T.g G.T.b G.T.builtins G.T.nolimit hg hobj hints (Nat.le_trans hlen hn2) hF hb fun H hO hS => hsp w H a ns hlen hO hS
end My

namespace My
open PySem PySem.Spec PyProof.Rows L2
/-! ### long division, as numbers -/
def rs (b d n : Int) : Nat → Int
  | 0 => n
  | i + 1 => rs b d n i * b % d
def dg (b d n : Int) (i : Nat) : Int := rs b d n i * b / d
def dl (b d n : Int) (m : Nat) : List Int := (List.range m).map (dg b d n)
theorem dl_succ (b d n : Int) (m : Nat) : dl b d n (m + 1) = dl b d n m ++ [dg b d n m] := by
  unfold dl; rw [List.range_succ, List.map_append]; rfl
theorem dl_len (b d n : Int) (m : Nat) : (dl b d n m).length = m := by unfold dl; rw [List.length_map, List.length_range]
structure Dv (b d n : Int) (m k : Nat) : Prop where
  lt : k < m
  back : rs b d n m = rs b d n k
  inj : ∀ i j, i < j → j < m → rs b d n i ≠ rs b d n j
theorem Dv.uniq {b d n : Int} {m k m' k' : Nat} (h : Dv b d n m k) (h' : Dv b d n m' k') : m = m' ∧ k = k' := by
  have e : m = m' := by
    rcases Nat.lt_trichotomy m m' with q | q | q
    · exact absurd h.back.symm (h'.inj k m h.lt q)
    · exact q
    · exact absurd h'.back.symm (h.inj k' m' h'.lt q)
  subst e
  refine ⟨rfl, ?_⟩
  have z : rs b d n k = rs b d n k' := h.back.symm.trans h'.back
  rcases Nat.lt_trichotomy k k' with q | q | q
  · exact absurd z (h.inj k k' q h'.lt)
  · exact q
  · exact absurd z.symm (h.inj k' k q h.lt)
def Soon (b d n : Int) : Prop := ∃ u v, u < v ∧ v ≤ 1000 ∧ rs b d n u = rs b d n v
theorem soon_le {b d n : Int} {i : Nat} (h : Soon b d n) (inj : ∀ x y, x < y → y < i → rs b d n x ≠ rs b d n y) : i ≤ 1000 := by
  obtain ⟨u, v, h1, h2, h3⟩ := h
  rcases Nat.lt_or_ge v i with q | q
  · exact absurd h3 (inj u v h1 q)
  · omega
theorem rs_rng {b d n : Int} (d0 : 0 < d) (n0 : 0 ≤ n) (nd : n < d) : ∀ i, 0 ≤ rs b d n i ∧ rs b d n i < d
  | 0 => ⟨n0, nd⟩
  | i + 1 => ⟨Int.emod_nonneg _ (by omega), Int.emod_lt_of_pos _ d0⟩
theorem dg_rng {b d n : Int} (d0 : 0 < d) (n0 : 0 ≤ n) (nd : n < d) (b0 : 0 < b) (i : Nat) : 0 ≤ dg b d n i ∧ dg b d n i < b := by
  obtain ⟨h1, h2⟩ := rs_rng (b := b) d0 n0 nd i
  refine ⟨Int.ediv_nonneg (Int.mul_nonneg h1 (by omega)) (by omega), Int.ediv_lt_of_lt_mul d0 ?_⟩
  rw [Int.mul_comm]
  exact Int.mul_lt_mul_of_pos_left h2 b0
theorem dl_rng {b d n : Int} (d0 : 0 < d) (n0 : 0 ≤ n) (nd : n < d) (b0 : 0 < b) (m : Nat) : ∀ x ∈ dl b d n m, 0 ≤ x ∧ x < b := by
  intro x hx
  unfold dl at hx
  obtain ⟨i, _, rfl⟩ := List.mem_map.mp hx
  exact dg_rng d0 n0 nd b0 i
/-! ### numbers that digits write -/
theorem snoc_ind {α : Type} {P : List α → Prop} (h0 : P []) (h1 : ∀ l x, P l → P (l ++ [x])) (l : List α) : P l := by
  have key : ∀ r : List α, P r.reverse := by
    intro r
    induction r with
    | nil => exact h0
    | cons x r ih => rw [List.reverse_cons]; exact h1 _ _ ih
  have := key l.reverse
  rwa [List.reverse_reverse] at this
def nb (b : Int) (l : List Int) : Int := l.foldl (fun a x => a * b + x) 0
theorem nb_snoc (b : Int) (l : List Int) (x : Int) : nb b (l ++ [x]) = nb b l * b + x := by unfold nb; rw [List.foldl_append]; rfl
theorem nb_app (b : Int) (l : List Int) : ∀ r : List Int, nb b (l ++ r) = nb b l * b ^ r.length + nb b r := by
  refine snoc_ind ?_ fun r x ih => ?_
  · simp [nb]
  · rw [← List.append_assoc, nb_snoc, ih, nb_snoc, List.length_append, List.length_singleton, Int.pow_succ]
    rw [Int.add_mul, Int.mul_assoc, Int.add_assoc]
theorem nb_rng {b : Int} (b0 : 0 < b) : ∀ l : List Int, (∀ x ∈ l, 0 ≤ x ∧ x < b) → 0 ≤ nb b l ∧ nb b l < b ^ l.length := by
  refine snoc_ind ?_ fun r x ih => ?_
  · intro _; exact ⟨by simp [nb], by simp [nb]⟩
  · intro h
    obtain ⟨i0, i1⟩ := ih fun y hy => h y (List.mem_append_left _ hy)
    obtain ⟨x0, x1⟩ := h x (by simp)
    rw [nb_snoc, List.length_append, List.length_singleton, Int.pow_succ]
    refine ⟨Int.add_nonneg (Int.mul_nonneg i0 (by omega)) x0, ?_⟩
    have : (nb b r + 1) * b ≤ b ^ r.length * b := Int.mul_le_mul_of_nonneg_right (by omega) (by omega)
    rw [Int.add_mul] at this
    omega
/-- what the first m digits tell -/
theorem div_inv (b d n : Int) : ∀ m, n * b ^ m = d * nb b (dl b d n m) + rs b d n m
  | 0 => by simp [dl, nb, rs]
  | m + 1 => by
    have ih := div_inv b d n m
    rw [dl_succ, nb_snoc, Int.pow_succ]
    have e : d * (rs b d n m * b / d) + rs b d n m * b % d = rs b d n m * b := Int.mul_ediv_add_emod _ _
    show n * (b ^ m * b) = d * (nb b (dl b d n m) * b + rs b d n m * b / d) + rs b d n m * b % d
    rw [Int.mul_add, Int.add_assoc, e, ← Int.mul_assoc, ih, Int.add_mul, Int.mul_assoc]
theorem pow_pos' {b : Int} (h : 0 < b) : ∀ k : Nat, 0 < b ^ k
  | 0 => by simp
  | k + 1 => by rw [Int.pow_succ]; exact Int.mul_pos (pow_pos' h k) h
/-- top and bottom of what stem and ring tell -/
def tp (b : Int) (S R : List Int) : Int := nb b S * (b ^ R.length - 1) + nb b R
def bt (b : Int) (S R : List Int) : Int := b ^ S.length * (b ^ R.length - 1)
theorem dv_eq {b d n : Int} {m k : Nat} (h : Dv b d n m k) : n * bt b ((dl b d n m).take k) ((dl b d n m).drop k) = d * tp b ((dl b d n m).take k) ((dl b d n m).drop k) := by
  have e : (dl b d n m).take k = dl b d n k := by
    unfold dl
    rw [← List.map_take, List.take_range, Nat.min_eq_left (Nat.le_of_lt h.lt)]
  have l1 : ((dl b d n m).drop k).length = m - k := by rw [List.length_drop, dl_len]
  have sp : nb b (dl b d n m) = nb b (dl b d n k) * b ^ (m - k) + nb b ((dl b d n m).drop k) := by
    have := nb_app b ((dl b d n m).take k) ((dl b d n m).drop k)
    rw [List.take_append_drop, e, l1] at this
    exact this
  have h1 := div_inv b d n m
  have h2 := div_inv b d n k
  rw [h.back, sp] at h1
  have pw : b ^ m = b ^ k * b ^ (m - k) := by
    rw [← Int.pow_add]; congr 1; have := h.lt; omega
  unfold bt tp
  rw [e, l1, dl_len]
  rw [pw] at h1
  have h3 : n * (b ^ k * (b ^ (m - k) - 1)) = n * (b ^ k * b ^ (m - k)) - n * b ^ k := by
    rw [Int.mul_sub, Int.mul_sub, Int.mul_one]
  rw [h3, h1, h2]
  rw [Int.mul_add, Int.mul_add, Int.mul_sub, Int.mul_sub, Int.mul_one]
  omega
end My

namespace My
open PySem PySem.Spec PyProof.Rows L2
/-! ### how many digits come ahead of the ring -/
theorem rs_mod {b d n : Int} (n0 : 0 ≤ n) (nd : n < d) : ∀ i, rs b d n i = n * b ^ i % d
  | 0 => by rw [Int.pow_zero, Int.mul_one]; exact (Int.emod_eq_of_lt n0 nd).symm
  | i + 1 => by
    show rs b d n i * b % d = _
    rw [rs_mod n0 nd i, Int.pow_succ, ← Int.mul_assoc, Int.mul_emod (n * b ^ i % d) b d, Int.emod_emod, ← Int.mul_emod]
theorem rs_add {b d n : Int} {u v : Nat} (h : rs b d n u = rs b d n v) : ∀ k, rs b d n (u + k) = rs b d n (v + k)
  | 0 => h
  | k + 1 => by show rs b d n (u + k) * b % d = rs b d n (v + k) * b % d; rw [rs_add h k]
theorem rs_iff {B D N : Nat} (b0 : 0 < B) (nd : N < D) (g : Nat.gcd N D = 1) (i p : Nat) : rs (B : Int) D N i = rs (B : Int) D N (i + p) ↔ D ∣ B ^ i * (B ^ p - 1) := by
  rw [rs_mod (Int.natCast_nonneg _) (by omega), rs_mod (Int.natCast_nonneg _) (by omega), eq_comm, Int.emod_eq_emod_iff_emod_sub_eq_zero, ← Int.dvd_iff_emod_eq_zero]
  have h1 : 1 ≤ B ^ p := Nat.pow_pos b0
  have e : (N : Int) * (B : Int) ^ (i + p) - (N : Int) * (B : Int) ^ i = ((N * (B ^ i * (B ^ p - 1)) : Nat) : Int) := by
    rw [Int.natCast_mul, Int.natCast_mul, Int.natCast_sub h1, Int.natCast_pow, Int.natCast_pow, Int.pow_add, Int.mul_sub, Int.mul_sub, Int.natCast_one, Int.mul_one]
  rw [e, Int.natCast_dvd_natCast]
  constructor
  · exact fun h => Nat.Coprime.dvd_of_dvd_mul_left (show Nat.gcd D N = 1 by rw [Nat.gcd_comm]; exact g) h
  · exact fun h => Nat.dvd_trans h (Nat.dvd_mul_left _ _)
/-- what is left of D behind i steps -/
def StemAt (B D i L : Nat) : Prop := ∃ G w, D = G * L ∧ B ^ i = G * w ∧ Nat.gcd L w = 1 ∧ 0 < L
theorem StemAt.start {B D : Nat} (d0 : 0 < D) : StemAt B D 0 D := ⟨1, 1, by simp, by simp, by simp, d0⟩
theorem StemAt.step {B D i L : Nat} (h : StemAt B D i L) : StemAt B D (i + 1) (L / Nat.gcd L B) := by
  obtain ⟨G, w, e1, e2, e3, l0⟩ := h
  obtain ⟨c, hc⟩ : ∃ c, c = Nat.gcd L B := ⟨_, rfl⟩
  rw [← hc]
  have c0 : 0 < c := by rw [hc]; exact Nat.gcd_pos_of_pos_left _ l0
  obtain ⟨x, hx⟩ : c ∣ L := by rw [hc]; exact Nat.gcd_dvd_left _ _
  obtain ⟨y, hy⟩ : c ∣ B := by rw [hc]; exact Nat.gcd_dvd_right _ _
  have ex : L / c = x := by rw [hx]; exact Nat.mul_div_cancel_left _ c0
  have x0 : 0 < x := Nat.pos_of_ne_zero fun z => by rw [z] at hx; omega
  have gxy : Nat.gcd x y = 1 := by
    have : c * Nat.gcd x y = c := by rw [← Nat.gcd_mul_left, ← hx, ← hy]; exact hc.symm
    exact Nat.eq_of_mul_eq_mul_left c0 (by rw [this, Nat.mul_one])
  have gxw : Nat.gcd x w = 1 := Nat.Coprime.coprime_dvd_left ⟨c, by rw [Nat.mul_comm]; exact hx⟩ e3
  refine ⟨G * c, w * y, ?_, ?_, ?_, by rw [ex]; exact x0⟩
  · rw [ex, e1, hx, Nat.mul_assoc]
  · rw [Nat.pow_succ, e2, hy]; simp only [Nat.mul_left_comm, Nat.mul_comm]
  · rw [ex]; exact Nat.Coprime.mul_right gxw gxy
theorem StemAt.none {B D i L p : Nat} (h : StemAt B D i L) (g : 1 < Nat.gcd L B) (p0 : 0 < p) (b0 : 0 < B) : ¬ D ∣ B ^ i * (B ^ p - 1) := by
  obtain ⟨G, w, e1, e2, e3, l0⟩ := h
  intro hd
  have g0 : 0 < G := Nat.pos_of_ne_zero fun z => by rw [z, Nat.zero_mul] at e2; exact absurd e2 (Nat.pos_iff_ne_zero.mp (Nat.pow_pos b0))
  rw [e1, e2, Nat.mul_assoc] at hd
  have h1 : L ∣ w * (B ^ p - 1) := Nat.dvd_of_mul_dvd_mul_left g0 hd
  have h2 : L ∣ B ^ p - 1 := Nat.Coprime.dvd_of_dvd_mul_left e3 h1
  have h3 : Nat.gcd L B ∣ B ^ p - 1 := Nat.dvd_trans (Nat.gcd_dvd_left _ _) h2
  have h4 : Nat.gcd L B ∣ B ^ p := Nat.dvd_trans (Nat.gcd_dvd_right L B) (by have := Nat.pow_dvd_pow B (show 1 ≤ p from p0); rwa [Nat.pow_one] at this)
  have h5 : 1 ≤ B ^ p := Nat.pow_pos b0
  have h6 : Nat.gcd L B ∣ 1 := by
    have : B ^ p - (B ^ p - 1) = 1 := by omega
    rw [← this]
    exact Nat.dvd_sub h4 h3
  have := Nat.le_of_dvd (by decide) h6
  omega
theorem StemAt.ends {B D s L u p : Nat} (h : StemAt B D s L) (g : Nat.gcd L B = 1) (hd : D ∣ B ^ u * (B ^ p - 1)) : D ∣ B ^ s * (B ^ p - 1) := by
  obtain ⟨G, w, e1, e2, e3, l0⟩ := h
  have h1 : L ∣ B ^ u * (B ^ p - 1) := Nat.dvd_trans ⟨G, by rw [Nat.mul_comm]; exact e1⟩ hd
  have h2 : L ∣ B ^ p - 1 := Nat.Coprime.dvd_of_dvd_mul_left (Nat.Coprime.pow_right u g) h1
  rw [e1, e2, Nat.mul_assoc]
  exact Nat.mul_dvd_mul_left G (Nat.dvd_trans h2 (Nat.dvd_mul_left _ _))
/-- the count of the digits ahead, as the program counts it -/
def StemEnd (B D s : Nat) : Prop := (∀ i, i < s → ∃ L, StemAt B D i L ∧ 1 < Nat.gcd L B) ∧ ∃ L, StemAt B D s L ∧ Nat.gcd L B = 1
structure Stem (b d n : Int) (s : Nat) : Prop where
  ahead : ∀ i j, i < s → i < j → rs b d n i ≠ rs b d n j
  round : ∀ u v, u < v → rs b d n u = rs b d n v → rs b d n s = rs b d n (s + (v - u))
theorem stem_of {B D N s : Nat} (b0 : 0 < B) (nd : N < D) (g : Nat.gcd N D = 1) (h : StemEnd B D s) : Stem (B : Int) D N s := by
  obtain ⟨h1, L, h2, h3⟩ := h
  constructor
  · intro i j hi hij e
    obtain ⟨L', a, c⟩ := h1 i hi
    obtain ⟨p, rfl⟩ : ∃ p, j = i + p := ⟨j - i, by omega⟩
    exact a.none c (by omega) b0 ((rs_iff b0 nd g i p).mp e)
  · intro u v huv e
    obtain ⟨p, rfl⟩ : ∃ p, v = u + p := ⟨v - u, by omega⟩
    rw [show u + p - u = p by omega]
    exact (rs_iff b0 nd g s p).mpr (h2.ends h3 ((rs_iff b0 nd g u p).mp e))
theorem Stem.soon {b d n : Int} {s : Nat} (h : Stem b d n s) (q : Soon b d n) : ∃ p, 0 < p ∧ s + p ≤ 1000 ∧ rs b d n (s + p) = rs b d n s := by
  obtain ⟨u, v, h1, h2, h3⟩ := q
  have hu : s ≤ u := by
    rcases Nat.lt_or_ge u s with z | z
    · exact absurd h3 (h.ahead u v z h1)
    · exact z
  exact ⟨v - u, by omega, by omega, (h.round u v h1 h3).symm⟩
theorem Stem.dv {b d n : Int} {s j : Nat} (h : Stem b d n s) (j0 : 0 < j) (hb : rs b d n (s + j) = rs b d n s) (no : ∀ i, 0 < i → i < j → rs b d n (s + i) ≠ rs b d n s) : Dv b d n (s + j) s := by
  refine ⟨by omega, hb, fun x y hxy hy => ?_⟩
  rcases Nat.lt_or_ge x s with z | z
  · exact h.ahead x y z hxy
  · intro e
    obtain ⟨x', rfl⟩ : ∃ k, x = s + k := ⟨x - s, by omega⟩
    obtain ⟨y', rfl⟩ : ∃ k, y = s + k := ⟨y - s, by omega⟩
    have e2 := rs_add e (j - y')
    rw [show s + y' + (j - y') = s + j by omega, hb] at e2
    exact no (x' + (j - y')) (by omega) (by omega) (by rw [← Nat.add_assoc]; exact e2)
end My

namespace My
open PySem PySem.Spec PyProof.Rows L2
abbrev sDivided : Stmt := topS 5
abbrev sStemSize : Stmt := topS 6
abbrev sNumberOf : Stmt := topS 8
abbrev sInLowest : Stmt := topS 4
abbrev sFractionOf : Stmt := topS 3
abbrev sRed : Stmt := topS 14
/-! ### lowest terms -/
def gN (a b : Int) : Int := ((Nat.gcd b.natAbs a.natAbs : Nat) : Int)
def spRed : Sp := fun vs H Q _ => ∃ a b : Int, vs = [.int a, .int b] ∧ 0 ≤ a ∧ 0 < b ∧ b.natAbs < 2 ^ 8000 ∧ ∀ q, H q = none → Q (.ref q) (upd H q (.tup [.int (a / gN a b), .int (b / gN a b)]))
theorem gcd_turn (x y : Nat) : Nat.gcd y (x % y) = Nat.gcd x y := by
  rw [Nat.gcd_comm x y, Nat.gcd_rec y x, Nat.gcd_comm]
section
variable {P : Program} {w : World} {K : PySem.W.Frag} {mg : Str → Option Value} {base : Heap}
theorem scRed : FnScope ["top", "whole", "one", "other"] ["top", "whole"] (defScope sRed) := ⟨rfl, rfl, rfl, by decide +kernel, rfl, by decide +kernel, by decide +kernel⟩
theorem ok_red {f : Addr} {fd : FuncData} (F : Fun K "_law_reduced" "_law_reduced" sRed f fd) : FnOk P w K mg base CX0 1 f fd ["top", "whole"] spRed := by
  refine F.ok scRed (fun vs H Q E h => ?_) (fun cdv A outer s H vs Q E hr h => ?_)
  · obtain ⟨a, b, rfl, _⟩ := h
    rfl
  · obtain ⟨a, b, rfl, a0, b0, bb, k⟩ := h
    refine ⟨_, pss_cons (ps_par (i := 2) (j := 3) (by rfl) scRed.nd rfl rfl (by decide) rfl rfl (pa_cons (pv 1) (pa_cons (pv 0) pa_nil)) (by rfl))
      (pss_cons (ps_while PassesOwn.never (pt_cmpR op_ne (pv 3) pe_int (nomark _))
        (pss_one (ps_par (i := 2) (j := 3) (by rfl) scRed.nd rfl rfl (by decide) rfl rfl (pa_cons (pv 3) (pa_cons (pe_op op_mod (pv 2) (pv 3)) pa_nil)) (by rfl))))
      (pss_one (ps_ret (pe_tup (pa_cons (pe_op op_fdivW (pv 0) (pv 2)) (pa_cons (pe_op op_fdivW (pv 1) (pv 2)) pa_nil)))))), ?_⟩
    refine ⟨_, rfl, _, rfl, _, _, rfl, ?_⟩
    refine while_by (fun σ H2 => ∃ x y : Nat, σ = [some (.int a), some (.int b), some (.int (x : Int)), some (.int (y : Int))] ∧ H2 = H ∧ Nat.gcd x y = Nat.gcd b.natAbs a.natAbs) (fun σ _ => match σ with | [_, _, _, some (.int y)] => y.natAbs | _ => 0) ?_ ?_ ?_
    · refine ⟨b.natAbs, a.natAbs, ?_, rfl, rfl⟩
      have e1 : ((b.natAbs : Nat) : Int) = b := by omega
      have e2 : ((a.natAbs : Nat) : Int) = a := by omega
      rw [e1, e2]; rfl
    · rintro σ H2 ⟨x, y, rfl, rfl, hg⟩
      refine ⟨_, rfl, rfl, _, rfl, ?_⟩
      by_cases hy : y = 0
      · have e1 : (!decide (V.int (y : Int) = V.int 0)) = false := by rw [hy]; rfl
        refine ifF e1 ?_
        subst hy
        have hx : x = Nat.gcd b.natAbs a.natAbs := by rw [← hg, Nat.gcd_zero_right]
        have g0 : 0 < x := by rw [hx]; exact Nat.gcd_pos_of_pos_left _ (by omega)
        have gb : x ≤ b.natAbs := by rw [hx]; exact Nat.le_of_dvd (by omega) (Nat.gcd_dvd_left _ _)
        have wd : ∀ z : Int, CDivW z (x : Int) := fun z => wide_div (b := 8000) (by omega) (Nat.lt_of_le_of_lt gb bb) (by decide) (by decide)
        refine ⟨_, rfl, _, rfl, _, _, rfl, rfl, wd _, _, rfl, _, rfl, _, _, rfl, rfl, wd _, (by show 2 ≤ sizeLine; decide), fun q hq => ?_⟩
        have e : gN a b = (x : Int) := by unfold gN; rw [hx]
        have kq := k q hq
        rw [e] at kq
        exact kq
      · have e1 : (!decide (V.int (y : Int) = V.int 0)) = true := by
          rw [decide_eq_false]
          · rfl
          · intro z
            have := V.int.inj z
            omega
        refine ifT e1 ?_
        have y0 : (0 : Int) < (y : Int) := by omega
        refine ⟨_, rfl, _, rfl, _, rfl, _, _, rfl, rfl, y0, _, _, rfl, ⟨y, x % y, ?_, rfl, by rw [gcd_turn, hg]⟩, ?_⟩
        · rw [Int.natCast_emod]; rfl
        · show ((x : Int) % (y : Int)).natAbs < ((y : Int)).natAbs
          have := Nat.mod_lt x (Nat.pos_of_ne_zero hy)
          omega
    · intro σ H2 Q1 Q2 m h
      obtain ⟨v, e, h1, b1, e2, h2⟩ := h
      exact ⟨v, e, h1, b1, e2, m _ _ h2⟩
end
abbrev sLDivided : Stmt := topS 16
abbrev sLNumber : Stmt := topS 18
def iTup (l : List Int) : PyData := .tuple (l.map .int)
structure Tx (mg : Str → Option Value) : Prop where
  len : mg "len" = none
  divmod : mg "divmod" = none
  tuple : mg "tuple" = none
theorem dq_mk {K : PySem.W.Frag} {G : Hp} {a : Addr} {l : List Int} (h : G a = some (.tup (l.map V.int))) : Dq K G (.ref a) (iTup l) := .tup h (dq_ints K G l)
theorem cut_take (l : List Int) (k : Nat) : cutV (l.map V.int) none (some (k : Int)) = (l.take k).map V.int := by
  unfold cutV
  have a1 : HT.sIx (l.map V.int).length 0 none = 0 := rfl
  rw [sIx_nat, a1, List.drop_zero, Nat.sub_zero, List.map_take, ← List.take_take, List.take_length]
theorem cut_drop (l : List Int) (k : Nat) : cutV (l.map V.int) (some (k : Int)) none = (l.drop k).map V.int := by
  unfold cutV
  have a1 : HT.sIx (l.map V.int).length (l.map V.int).length none = (l.map V.int).length := rfl
  rw [sIx_nat, a1, List.map_drop]
  rcases Nat.le_total k (l.map V.int).length with h | h
  · rw [Nat.min_eq_left h, List.take_of_length_le (by rw [List.length_drop]; exact Nat.le_refl _)]
  · rw [Nat.min_eq_right h, Nat.sub_self, List.take_zero, List.drop_eq_nil_of_le h]
/-- what a division is asked of -/
structure Asked (b d n : Int) : Prop where
  b0 : 2 ≤ b
  b1 : b ≤ 10
  n0 : 0 ≤ n
  nd : n < d
  dz : d.natAbs < 2 ^ 8000
  soon : Soon b d n
  gc : Nat.gcd n.natAbs d.natAbs = 1
def spDivided (K : PySem.W.Frag) : Sp := fun vs H Q _ => ∃ (b n d : Int) (G : Hp), vs = [.int b, .int n, .int d] ∧ Asked b d n ∧ Same G H ∧
  ∀ m k, Dv b d n m k → ∀ (v : V) (G' H' : Hp), Nw G H G' H' → Dq K G' v (.tuple [iTup ((dl b d n m).take k), iTup ((dl b d n m).drop k)]) → Q v H'
def spLDivided (K : PySem.W.Frag) : Sp := fun vs H Q _ => ∃ (b n d : Int) (G : Hp), vs = [.int b, .int n, .int d] ∧ 0 < d ∧ (n ≠ d → Asked b d n) ∧ Same G H ∧
  (n = d → ∀ (v : V) (G' H' : Hp), Nw G H G' H' → Dq K G' v (.tuple [iTup [], iTup [b - 1]]) → Q v H') ∧
  (n ≠ d → ∀ m k, Dv b d n m k → ∀ (v : V) (G' H' : Hp), Nw G H G' H' → Dq K G' v (.tuple [iTup ((dl b d n m).take k), iTup ((dl b d n m).drop k)]) → Q v H')
/-- digits of a base -/
def Digs (b : Int) (l : List Int) : Prop := ∀ x ∈ l, 0 ≤ x ∧ x < b
def spNumberOf (K : PySem.W.Frag) : Sp := fun vs H Q _ => ∃ (b : Int) (v : V) (l : List Int) (G : Hp), vs = [.int b, v] ∧ 2 ≤ b ∧ b ≤ 10 ∧ Same G H ∧ Dq K G v (iTup l) ∧ ∀ (a : Addr) (G' H' : Hp), Nw G H G' H' → G' a = some (.tup [.int (nb b l), .int (b ^ l.length)]) → Q (.ref a) H'
def spLNumber (K : PySem.W.Frag) : Sp := fun vs H Q _ => ∃ (b : Int) (v : V) (l : List Int) (G : Hp), vs = [.int b, v] ∧ 2 ≤ b ∧ b ≤ 10 ∧ Same G H ∧ Dq K G v (iTup l) ∧ Q (.int (nb b l)) H
def spInLowest : Sp := fun vs H Q _ => ∃ a b : Int, vs = [.int a, .int b] ∧ 0 < b ∧ b.natAbs < 2 ^ 8000 ∧ ∀ q, H q = none → Q (.ref q) (upd H q (.tup [.int (a / gN a b), .int (b / gN a b)]))
theorem small1000000 {n : Nat} (h : n ≤ 1000000) : n < sizeLine := by rw [sizeLine_eq]; omega
theorem same_put {H H2 : Hp} (s : Same H H2) {p : Addr} (n : H p = none) {o : HO} : Same H (upd H2 p o) := fun b u h => by rw [upd_ne (ne_of_none h n)]; exact s b u h
theorem dq_tup {K : PySem.W.Frag} {G : Hp} {v : V} {l : List Int} (h : Dq K G v (iTup l)) : ∃ a, v = .ref a ∧ G a = some (.tup (l.map V.int)) := by
  cases h with
  | tup hs ha =>
    rename_i a xs
    refine ⟨a, rfl, ?_⟩
    have key : ∀ (xs : List V) (l : List Int), DqAll K G xs (l.map .int) → xs = l.map V.int := by
      intro xs l
      induction l generalizing xs with
      | nil => intro h; cases h; rfl
      | cons x r ih => intro h; cases h with | cons h1 h2 => cases h1; rw [ih _ h2]; rfl
    rw [← key xs l ha]; exact hs
theorem Nw.pre {G H H1 G' H' : Hp} (e : Same H H1) (g : Nw G H1 G' H') : Nw G H G' H' := ⟨g.gg, g.gh, e.trans g.hh, fun c hc => g.old c (keep_ne e hc)⟩
def spStem : Sp := fun vs H Q _ => ∃ b d : Int, vs = [.int b, .int d] ∧ 2 ≤ b ∧ b ≤ 10 ∧ 0 < d ∧ d.natAbs < 2 ^ 8000 ∧ ∀ s : Nat, StemEnd b.toNat d.toNat s → Q (.int (s : Int)) H
theorem asked_stem {b d n : Int} {s : Nat} (a : Asked b d n) (h : StemEnd b.toNat d.toNat s) : Stem b d n s := by
  obtain ⟨b0, b1, n0, nd, dz, so, gc⟩ := a
  obtain ⟨B, rfl⟩ : ∃ B : Nat, b = (B : Int) := ⟨b.toNat, by omega⟩
  obtain ⟨D, rfl⟩ : ∃ D : Nat, d = (D : Int) := ⟨d.toNat, by omega⟩
  obtain ⟨N, rfl⟩ : ∃ N : Nat, n = (N : Int) := ⟨n.toNat, by omega⟩
  rw [Int.toNat_natCast, Int.toNat_natCast] at h
  exact stem_of (by omega) (by omega) gc h
theorem dl_take {b d n : Int} (s j : Nat) : (dl b d n (s + j)).take s = dl b d n s := by
  induction j with
  | zero => rw [Nat.add_zero]; exact List.take_of_length_le (by rw [dl_len]; exact Nat.le_refl _)
  | succ j ih => rw [← Nat.add_assoc, dl_succ, List.take_append_of_le_length (by rw [dl_len]; omega)]; exact ih
theorem dl_drop_succ {b d n : Int} (s j : Nat) : (dl b d n (s + (j + 1))).drop s = (dl b d n (s + j)).drop s ++ [dg b d n (s + j)] := by
  rw [← Nat.add_assoc, dl_succ, List.drop_append_of_le_length (by rw [dl_len]; omega)]
section
variable {P : Program} {w : World} {K : PySem.W.Frag} {mg : Str → Option Value} {base : Heap}
theorem scStemSize : FnScope ["base", "bottom", "size", "left", "common"] ["base", "bottom"] (defScope sStemSize) := ⟨rfl, rfl, rfl, by decide +kernel, rfl, by decide +kernel, by decide +kernel⟩
theorem ok_stemSize {f : Addr} {fd : FuncData} (F : Fun K "_stem_size" "_stem_size" sStemSize f fd) (gG : mg "gcd" = some (.builtin "math.gcd")) : FnOk P w K mg base CX0 1 f fd ["base", "bottom"] spStem := by
  refine F.ok scStemSize (fun vs H Q E h => ?_) (fun cdv A outer s H vs Q E hr h => ?_)
  · obtain ⟨b, d, rfl, _⟩ := h
    rfl
  · obtain ⟨b, d, rfl, b0, b1, d0, dz, k⟩ := h
    obtain ⟨B, rfl⟩ : ∃ B : Nat, b = (B : Int) := ⟨b.toNat, by omega⟩
    obtain ⟨D, rfl⟩ : ∃ D : Nat, d = (D : Int) := ⟨d.toNat, by omega⟩
    rw [Int.toNat_natCast, Int.toNat_natCast] at k
    refine ⟨_, (pss_cons (ps_set (i := 2) scStemSize.nd rfl (Or.inl rfl) pe_int)
      (pss_cons (ps_set (i := 3) scStemSize.nd rfl (Or.inl rfl) (pv 1))
      (pss_cons (ps_set (i := 4) scStemSize.nd rfl (Or.inl rfl) (pe_callBfun cr_gcd (by rfl) gG (pa_cons (pv 3) (pa_cons (pv 0) pa_nil))))
      (pss_cons (ps_while PassesOwn.never (pt_cmpR op_gt (pv 4) pe_int (nomark _)) (pss_cons (ps_set (i := 3) scStemSize.nd rfl (Or.inl rfl) (pe_op op_fdivW (pv 3) (pv 4)))
        (pss_cons (ps_aug (i := 2) scStemSize.nd rfl (Or.inl rfl) pe_int ip_add)
        (pss_one (ps_set (i := 4) scStemSize.nd rfl (Or.inl rfl) (pe_callBfun cr_gcd (by rfl) gG (pa_cons (pv 3) (pa_cons (pv 0) pa_nil))))))))
      (pss_one (ps_ret (pv 2))))))), ?_⟩
    refine ⟨_, rfl, _, rfl, _, rfl, _, _, rfl, ?_⟩
    refine while_by (fun σ H2 => ∃ s L : Nat, σ = [some (.int (B : Int)), some (.int (D : Int)), some (.int (s : Int)), some (.int (L : Int)), some (.int ((Nat.gcd L B : Nat) : Int))] ∧ H2 = H ∧ StemAt B D s L ∧ L ≤ D ∧ ∀ i, i < s → ∃ L', StemAt B D i L' ∧ 1 < Nat.gcd L' B) (fun σ _ => match σ with | [_, _, _, some (.int y), _] => y.natAbs | _ => 0) ?_ ?_ ?_
    · exact ⟨0, D, rfl, rfl, StemAt.start (by omega), Nat.le_refl _, fun _ z => nomatch z⟩
    · rintro σ H2 ⟨s, L, rfl, rfl, hs, hL, hb⟩
      have l0 : 0 < L := by obtain ⟨_, _, _, _, _, z⟩ := hs; exact z
      refine ⟨_, rfl, _, _, rfl, rfl, _, rfl, ?_⟩
      by_cases hg : 1 < Nat.gcd L B
      · refine ifT (decide_eq_true (by omega)) ?_
        have gL : Nat.gcd L B ≤ L := Nat.le_of_dvd l0 (Nat.gcd_dvd_left _ _)
        have wd : CDivW (L : Int) ((Nat.gcd L B : Nat) : Int) := wide_div (b := 8000) (by omega) (Nat.lt_of_le_of_lt (show (((Nat.gcd L B : Nat) : Int)).natAbs ≤ (D : Int).natAbs by omega) dz) (by decide) (by decide)
        refine ⟨_, rfl, _, rfl, _, _, rfl, rfl, wd, ?_⟩
        refine ⟨_, rfl, _, _, rfl, rfl, ?_⟩
        refine ⟨_, rfl, _, rfl, _, _, rfl, ?_⟩
        have el : L / Nat.gcd L B < L := Nat.div_lt_self l0 hg
        refine ⟨⟨s + 1, L / Nat.gcd L B, ?_, rfl, hs.step, by omega, fun i hi => ?_⟩, ?_⟩
        · rw [Int.natCast_add, Int.natCast_ediv]; rfl
        · rcases Nat.lt_or_ge i s with q | q
          · exact hb i q
          · obtain rfl : i = s := by omega
            exact ⟨L, hs, hg⟩
        · show ((L : Int) / ((Nat.gcd L B : Nat) : Int)).natAbs < (L : Int).natAbs
          rw [← Int.natCast_ediv, Int.natAbs_natCast, Int.natAbs_natCast]; exact el
      · refine ifF (decide_eq_false (by omega)) ?_
        have g0 : 0 < Nat.gcd L B := Nat.gcd_pos_of_pos_left _ l0
        exact ⟨_, rfl, k s ⟨hb, L, hs, by omega⟩⟩
    · intro σ H2 Q1 Q2 m h
      obtain ⟨v, e, i, j, e1, e2, u, e3, h2⟩ := h
      exact ⟨v, e, i, j, e1, e2, u, e3, m _ _ h2⟩
theorem scDivided : FnScope ["base", "top", "bottom", "stem", "rest", "_", "digit", "start", "ring"] ["base", "top", "bottom"] (defScope sDivided) := ⟨rfl, rfl, rfl, by decide +kernel, rfl, by decide +kernel, by decide +kernel⟩
theorem ok_divided {f fS : Addr} {fd fdS : FuncData} (F : Fun K "_divided" "_divided" sDivided f fd) (T : Tx mg) (mr : mg "range" = none)
    (FS : Fun K "_stem_size" "_stem_size" sStemSize fS fdS) (bS : Binds K fdS ["base", "bottom"] []) (gS : mg "_stem_size" = some (.ref fS)) (gG : mg "gcd" = some (.builtin "math.gcd")) : FnOk P w K mg base CX0 2 f fd ["base", "top", "bottom"] (spDivided K) := by
  have GS : FnOk P w K mg base CX0 1 fS fdS ["base", "bottom"] spStem := ok_stemSize FS gG
  refine F.ok scDivided (fun vs H Q E h => ?_) (fun cdv A outer s H vs Q E hr h => ?_)
  · obtain ⟨b, n, d, G, rfl, _⟩ := h
    rfl
  · obtain ⟨b, n, d, G, rfl, a, e, k⟩ := h
    have hr1 := hr
    refine ⟨_, (pss_cons (ps_set (i := 3) scDivided.nd rfl (Or.inl rfl) (pe_lst pa_nil))
      (pss_cons (ps_set (i := 4) scDivided.nd rfl (Or.inl rfl) (pv 1))
      (pss_cons (ps_for PassesOwn.never rfl (pi_range1 (by rfl) mr (pa_cons (pe_call GS hr1 (by rfl) gS FS.kp bS .nil pass0 (pa_cons (pv 0) (pa_cons (pv 2) pa_nil))) pa_nil)) (pg_name (i := 5) scDivided.nd rfl (Or.inl rfl))
        (pss_cons (ps_asg (pe_callB call_divmodW (by rfl) T.divmod boot_divmod (pa_cons (pe_op op_mul (pv 4) (pv 0)) (pa_cons (pv 2) pa_nil))) (pg_tup (by rfl) (pgs_cons (pg_name (i := 6) scDivided.nd rfl (Or.inl rfl)) (pgs_cons (pg_name (i := 4) scDivided.nd rfl (Or.inl rfl)) pgs_nil))))
        (pss_one (ps_expr (pe_bm PySem.F.plainAttrs_list PySem.F.slot_list_append PySem.F.type_list_append mt_append (pv 3) (pa_cons (pv 6) pa_nil))))))
      (pss_cons (ps_set (i := 7) scDivided.nd rfl (Or.inl rfl) (pv 4))
      (pss_cons (ps_set (i := 8) scDivided.nd rfl (Or.inl rfl) (pe_lst pa_nil))
      (pss_cons (ps_while PassesOwn.never (PW.pt (pw_or (pt_not (pt_truth (pv 8) (by intro _; rfl))) (pw_or1 (pt_cmpR op_ne (pv 4) (pv 7) (nomark _)))))
        (pss_cons (ps_asg (pe_callB call_divmodW (by rfl) T.divmod boot_divmod (pa_cons (pe_op op_mul (pv 4) (pv 0)) (pa_cons (pv 2) pa_nil))) (pg_tup (by rfl) (pgs_cons (pg_name (i := 6) scDivided.nd rfl (Or.inl rfl)) (pgs_cons (pg_name (i := 4) scDivided.nd rfl (Or.inl rfl)) pgs_nil))))
        (pss_one (ps_expr (pe_bm PySem.F.plainAttrs_list PySem.F.slot_list_append PySem.F.type_list_append mt_append (pv 8) (pa_cons (pv 6) pa_nil))))))
      (pss_one (ps_ret (pe_tup (pa_cons (pe_callTy call_tuple_of (by rfl) T.tuple boot_tuple (pa_cons (pv 3) pa_nil)) (pa_cons (pe_callTy call_tuple_of (by rfl) T.tuple boot_tuple (pa_cons (pv 8) pa_nil)) pa_nil))))))))))), ?_⟩
    have d0 : 0 < d := by have := a.n0; have := a.nd; omega
    refine ⟨by decide, fun ld nld => ?_⟩
    refine ⟨_, rfl, _, rfl, _, rfl, b, d, rfl, a.b0, a.b1, d0, a.dz, fun s hs => ?_⟩
    have st := asked_stem a hs
    obtain ⟨p, p0, p1, hp⟩ := st.soon a.soon
    have cdiv : ∀ x, CDivP x d := fun x => ⟨d0, PyProof.noPylong_of_log2 (Nat.lt_of_lt_of_le (PySem.Flt.log2_lt_of (k := 8000) (by decide) a.dz) (by decide))⟩
    have cm : ∀ x, CMul x b := fun x => .inr ⟨by have := a.b0; omega, by have := a.b1; omega⟩
    refine ⟨_, rfl, by omega, by omega, ?_⟩
    rw [Int.toNat_natCast]
    refine for_range (n := s) (fun i σ H2 => ∃ y5 y6 : Option V, σ = [some (.int b), some (.int n), some (.int d), some (.ref ld), some (.int (rs b d n i)), y5, y6, none, none] ∧ H2 ld = some (.lst ((dl b d n i).map V.int)) ∧ Same H H2) ⟨none, none, rfl, upd_same, Same.upd nld⟩ ?_ ?_
    · rintro i σ H2 hi ⟨y5, y6, rfl, hl, sm⟩
      refine ⟨_, rfl, _, rfl, _, _, rfl, rfl, cm _, _, rfl, _, _, rfl, cdiv _, fun q nq => ?_⟩
      refine ⟨q, _, rfl, SqT.of upd_same, rfl, _, _, rfl, _, _, rfl, rfl, ?_⟩
      have ldq : ld ≠ q := ne_of_none hl nq
      refine ⟨_, rfl, .inl ⟨rfl, _, SqL.of (by rw [upd_ne ldq]; exact hl)⟩, _, rfl, ld, _, _, rfl, rfl, (by rw [upd_ne ldq]; exact hl), (by rw [List.length_map, dl_len, sizeLine_eq]; omega), ?_⟩
      refine ⟨_, _, rfl, by rw [upd_same, dl_succ, List.map_append]; rfl, fun c o hc => ?_⟩
      rw [upd_ne (ne_of_none hc nld), upd_ne (ne_of_none hc (sm.free nq))]
      exact sm c o hc
    · rintro σ H2 ⟨y5, y6, rfl, hl, sm⟩
      refine ⟨_, rfl, by decide, fun lr nlr => ?_⟩
      have lne : ld ≠ lr := ne_of_none hl nlr
      have nlr0 : H lr = none := sm.free nlr
      refine while_by (fun σ H3 => ∃ (j : Nat) (y5 y6 : Option V), σ = [some (.int b), some (.int n), some (.int d), some (.ref ld), some (.int (rs b d n (s + j))), y5, y6, some (.int (rs b d n s)), some (.ref lr)] ∧ H3 ld = some (.lst ((dl b d n s).map V.int)) ∧ H3 lr = some (.lst (((dl b d n (s + j)).drop s).map V.int)) ∧ j ≤ p ∧ (∀ i, 0 < i → i < j → rs b d n (s + i) ≠ rs b d n s) ∧ Same H H3) (fun _ H3 => match H3 lr with | some (.lst xs) => p - xs.length | _ => 0) ?_ ?_ ?_
      · refine ⟨0, y5, y6, rfl, by rw [upd_ne lne]; exact hl, ?_, Nat.zero_le _, (fun i h1 h2 => by omega), fun c o hc => ?_⟩
        · rw [upd_same, Nat.add_zero, List.drop_eq_nil_of_le (by rw [dl_len]; exact Nat.le_refl _)]; rfl
        · rw [upd_ne (ne_of_none hc nlr0)]; exact sm c o hc
      · rintro σ H3 ⟨j, y5, y6, rfl, hl3, hr3, hj, no, sm3⟩
        have len3 : ((dl b d n (s + j)).drop s).length = j := by rw [List.length_drop, dl_len]; omega
        have go : j = 0 ∨ (0 < j ∧ rs b d n (s + j) ≠ rs b d n s) → j < p := by
          rintro (z | ⟨z, z2⟩)
          · omega
          · rcases Nat.lt_or_ge j p with q | q
            · exact q
            · obtain rfl : j = p := by omega
              exact absurd hp z2
        refine ⟨_, rfl, _, .inl ⟨_, SqL.of hr3, rfl⟩, ?_⟩
        by_cases j0 : j = 0
        · refine ifT (by subst j0; rw [List.drop_eq_nil_of_le (by rw [dl_len]; omega)]; rfl) ?_
          have jp := go (.inl j0)
          have hz : 0 < j → rs b d n (s + j) ≠ rs b d n s := fun z => by omega
          refine ⟨_, rfl, _, rfl, _, _, rfl, rfl, cm _, _, rfl, _, _, rfl, cdiv _, fun q nq => ?_⟩
          refine ⟨q, _, rfl, SqT.of upd_same, rfl, _, _, rfl, _, _, rfl, rfl, ?_⟩
          have lrq : lr ≠ q := ne_of_none hr3 nq
          have ldq : ld ≠ q := ne_of_none hl3 nq
          refine ⟨_, rfl, .inl ⟨rfl, _, SqL.of (by rw [upd_ne lrq]; exact hr3)⟩, _, rfl, lr, _, _, rfl, rfl, (by rw [upd_ne lrq]; exact hr3), (by rw [List.length_map, len3, sizeLine_eq]; omega), ?_⟩
          refine ⟨⟨j + 1, _, _, rfl, ?_, ?_, by omega, ?_, ?_⟩, ?_⟩
          · rw [upd_ne lne, upd_ne ldq]; exact hl3
          · rw [upd_same, dl_drop_succ, List.map_append]; rfl
          · intro i h1 h2
            rcases Nat.lt_or_ge i j with q2 | q2
            · exact no i h1 q2
            · obtain rfl : i = j := by omega
              exact hz h1
          · intro c o hc
            rw [upd_ne (ne_of_none hc nlr0), upd_ne (ne_of_none hc (sm3.free nq))]
            exact sm3 c o hc
          · show (match (upd (upd H3 q _) lr _) lr with | some (.lst xs) => p - xs.length | _ => 0) < (match H3 lr with | some (.lst xs) => p - xs.length | _ => 0)
            rw [upd_same, hr3]
            show p - (_ ++ [_]).length < p - _
            rw [List.length_append, List.length_map, len3, List.length_singleton]
            omega
        · have ne : ((dl b d n (s + j)).drop s).map V.int ≠ [] := fun z => j0 (by have := congrArg List.length z; rw [List.length_map, len3] at this; exact this)
          refine ifF (by cases hx : ((dl b d n (s + j)).drop s).map V.int with | nil => exact absurd hx ne | cons x r => rfl) ?_
          refine ⟨_, rfl, _, rfl, rfl, _, rfl, ?_⟩
          by_cases hz : rs b d n (s + j) = rs b d n s
          · refine ifF (by rw [hz, decide_eq_true rfl]; rfl) ?_
            rw [← dl_take s j] at hl3
            have g3 : Same G H3 := e.trans sm3
            refine ⟨_, rfl, ld, _, rfl, .inl ⟨SqL.of hl3, fun t1 nt1 => ?_⟩⟩
            have w1 := Nw.mk1 g3 nt1 (.tup (((dl b d n (s + j)).take s).map V.int))
            refine ⟨_, rfl, lr, _, rfl, .inl ⟨SqL.of (w1.hh _ _ hr3), fun t2 nt2 => ?_⟩⟩
            have w2 := Nw.mk1 w1.gh nt2 (.tup (((dl b d n (s + j)).drop s).map V.int))
            refine ⟨(by show 2 ≤ sizeLine; decide), fun q nq => ?_⟩
            have w3 := Nw.mk1 w2.gh nq (.tup [.ref t1, .ref t2])
            exact k (s + j) s (st.dv (by omega) hz no) (.ref q) _ _ (Nw.pre sm3 ((w1.trans w2).trans w3)) (.tup upd_same (.cons (dq_mk (w3.gg _ _ (w2.gg _ _ upd_same))) (.cons (dq_mk (w3.gg _ _ upd_same)) .nil)))
          · refine ifT (by rw [decide_eq_false (fun z => hz (V.int.inj z))]; rfl) ?_
            have jp := go (.inr ⟨by omega, hz⟩)
            have hz := fun _ : 0 < j => hz
            refine ⟨_, rfl, _, rfl, _, _, rfl, rfl, cm _, _, rfl, _, _, rfl, cdiv _, fun q nq => ?_⟩
            refine ⟨q, _, rfl, SqT.of upd_same, rfl, _, _, rfl, _, _, rfl, rfl, ?_⟩
            have lrq : lr ≠ q := ne_of_none hr3 nq
            have ldq : ld ≠ q := ne_of_none hl3 nq
            refine ⟨_, rfl, .inl ⟨rfl, _, SqL.of (by rw [upd_ne lrq]; exact hr3)⟩, _, rfl, lr, _, _, rfl, rfl, (by rw [upd_ne lrq]; exact hr3), (by rw [List.length_map, len3, sizeLine_eq]; omega), ?_⟩
            refine ⟨⟨j + 1, _, _, rfl, ?_, ?_, by omega, ?_, ?_⟩, ?_⟩
            · rw [upd_ne lne, upd_ne ldq]; exact hl3
            · rw [upd_same, dl_drop_succ, List.map_append]; rfl
            · intro i h1 h2
              rcases Nat.lt_or_ge i j with q2 | q2
              · exact no i h1 q2
              · obtain rfl : i = j := by omega
                exact hz h1
            · intro c o hc
              rw [upd_ne (ne_of_none hc nlr0), upd_ne (ne_of_none hc (sm3.free nq))]
              exact sm3 c o hc
            · show (match (upd (upd H3 q _) lr _) lr with | some (.lst xs) => p - xs.length | _ => 0) < (match H3 lr with | some (.lst xs) => p - xs.length | _ => 0)
              rw [upd_same, hr3]
              show p - (_ ++ [_]).length < p - _
              rw [List.length_append, List.length_map, len3, List.length_singleton]
              omega
      · intro σ H3 Q1 Q2 m h
        obtain ⟨v, e1, kk, tv, h⟩ := h
        refine ⟨v, e1, kk, tv, ?_⟩
        dsimp only at h ⊢
        by_cases hk : (!kk) = true
        · rw [if_pos hk] at h ⊢
          exact m _ _ h
        · rw [if_neg hk] at h ⊢
          obtain ⟨v2, e2, v3, e3, sc, u, e4, h⟩ := h
          exact ⟨v2, e2, v3, e3, sc, u, e4, m _ _ h⟩
end
end My

namespace My
open PySem PySem.Spec PyProof.Rows L2
/-! ### t * k, any k that is not below nought -/
theorem mul_same (l : Addr) (items : Array Value) (n : Nat) (dd : Option Addr) (sl : Array (Option Value)) (u : Tok) :
    Meets (Builtin.«tuple.__mul__» ⟨[.ref l, .int 1 u], []⟩) (fun _ R s => s.heap.get? l = some { cls := .type "tuple", dict := dd, data := .seq items n, slots := sl } ∧ R (.ok (.ret (Value.ref l))) s) :=
  .of_wp fun prog w A R s h => by
    obtain ⟨hp, g, d, tk, os⟩ := s
    obtain ⟨hl, h⟩ := h
    have f1 := AutoSeq1.idx_int
    have c1 : (items.isEmpty || (1 : Int) == 1) = true := by rw [Bool.or_comm]; rfl
    wp_walk using wpAny_loadPart' hl
    repeat (first
      | (refine wpAny_ite_true (decide_eq_true c1) ?_; wp_walk using wpAny_loadPart' hl)
      | (refine wpAny_ite_false (decide_eq_false (by decide)) ?_; wp_walk using wpAny_loadPart' hl))
    exact ⟨_, rfl, h⟩
theorem mul_none (l : Addr) (items : Array Value) (n : Nat) (dd : Option Addr) (sl : Array (Option Value)) (u : Tok) (c1 : (items.isEmpty || (0 : Int) == 1) = false) :
    Meets (Builtin.«tuple.__mul__» ⟨[.ref l, .int 0 u], []⟩) (fun _ R s => s.heap.get? l = some { cls := .type "tuple", dict := dd, data := .seq items n, slots := sl } ∧ R (.ok (.ret (Value.ref s.heap.objs.size))) { s with heap := s.heap.push { cls := Value.type "tuple", data := Data.seq #[] }, toks := s.toks }) :=
  .of_wp fun prog w A R s h => by
    obtain ⟨hp, g, d, tk, os⟩ := s
    obtain ⟨hl, h⟩ := h
    have f1 := AutoSeq1.idx_int
    have c2 : (decide ((0 : Int) ≤ 0) || items.isEmpty) = true := rfl
    wp_walk using wpAny_loadPart' hl
    repeat (first
      | (refine wpAny_ite_false (decide_eq_false (by rw [c1]; exact Bool.false_ne_true)) ?_; wp_walk using wpAny_loadPart' hl)
      | (refine wpAny_ite_true (decide_eq_true c2) ?_; wp_walk using wpAny_loadPart' hl)
      | (refine wpAny_ite_false (decide_eq_false (by decide)) ?_; wp_walk using wpAny_loadPart' hl))
    exact ⟨_, rfl, h⟩
def rMulT (K : PySem.W.Frag) : R2 := fun x y H Q => ∃ l k xs, x = .ref l ∧ y = .int k ∧ SqT K H l xs ∧ xs ≠ [] ∧ 0 ≤ k ∧ k ≤ 1000 ∧ xs.length ≤ 1000 ∧ (k = 1 → Q (.ref l) H) ∧ (k ≠ 1 → ∀ p, H p = none → Q (.ref p) (upd H p (.tup (List.replicate k.toNat xs).flatten)))
theorem op_mulT {X : Cx} : OpR X (binaryOp .Mult) (rMulT X.K) := by
  intro pins s σ H x y v u Q I rx ry h
  obtain ⟨l, k, xs, rfl, rfl, hT, hne, h0, h1, hz, q1, q2⟩ := h
  by_cases k2 : 2 ≤ k
  · exact op_repT pins s σ H _ _ v u Q I rx ry ⟨l, k, xs, rfl, rfl, hT, hne, k2, h1, hz, q2 (by omega)⟩
  cases rx
  obtain ⟨t, rfl⟩ := ry
  obtain ⟨its, r, ⟨⟨cls, dd, data, sl⟩, ho, hc, n, hd⟩, hs⟩ := I.tuple hT
  simp only at hc hd
  subst hc hd
  have hle : its.length = xs.length := r.length.symm
  have hi : its.toArray.isEmpty = false := by
    cases its with
    | nil => exact absurd (List.eq_nil_of_length_eq_zero hle.symm) hne
    | cons a b => rfl
  by_cases k1 : k = 1
  · subst k1
    exact wpAny_binaryOp_repeat_ref (T := "tuple") (U := "int") (by decide) ⟨_, ho, rfl⟩ (fun s' => typeIs_int s' 1 t) noFill_tuple_mul F.fills_int_mul F.slot_int_rmul repeat_tuple F.slot_int_index.lookup
      (call_meets F.slot_int_rmul (typeIs_int s 1 t) F.entry_int_rmul (F.args_int_rmul_2 _ _) (int_rmul_tuple 1 t l its.toArray n dd sl) ⟨ho, rfl, ⟨_, ho, rfl⟩, call_meets F.slot_tuple_mul ⟨_, ho, rfl⟩ F.entry_tuple_mul (F.args_tuple_mul_2 _ _) (mul_same l its.toArray n dd sl t) ⟨ho, .ref l, H, I, rfl, q1 rfl⟩⟩)
  · have k0 : k = 0 := by omega
    subst k0
    refine wpAny_binaryOp_repeat_ref (T := "tuple") (U := "int") (by decide) ⟨_, ho, rfl⟩ (fun s' => typeIs_int s' 0 t) noFill_tuple_mul F.fills_int_mul F.slot_int_rmul repeat_tuple F.slot_int_index.lookup
      (call_meets F.slot_int_rmul (typeIs_int s 0 t) F.entry_int_rmul (F.args_int_rmul_2 _ _) (int_rmul_tuple 0 t l its.toArray n dd sl) ⟨ho, rfl, ⟨_, ho, rfl⟩, call_meets F.slot_tuple_mul ⟨_, ho, rfl⟩ F.entry_tuple_mul (F.args_tuple_mul_2 _ _) (mul_none l its.toArray n dd sl t (by rw [hi]; rfl)) ⟨ho, ?_⟩⟩)
    refine ⟨.ref s.heap.objs.size, _, I.laid (t' := s.toks) (o := .tup []) (fun b ob q => Heap.get?_push_of_some _ q) (Nat.le_refl _) ?_, rfl, q2 (by decide) _ (I.hok.fresh (Nat.le_refl _))⟩
    exact ⟨by simp, [], .nil, IsTup.new _ _⟩
/-! ### rules by what stands still -/
theorem OpR.imp {X : Cx} {f : Value → Value → Sem Value} {r r' : R2} (h : OpR X f r) (i : ∀ x y H Q, r' x y H Q → r x y H Q) : OpR X f r' := fun pins s σ H x y v u Q I rx ry q => h pins s σ H x y v u Q I rx ry (i _ _ _ _ q)
theorem SlR.imp {X : Cx} {r r' : V → Option Int → Option Int → Hp → VK → Prop} (h : SlR X r) (i : ∀ x lo hi H Q, r' x lo hi H Q → r x lo hi H Q) : SlR X r' := fun pins s σ H x v vl vu lo hi sl Q I rx hs pl pu q => h pins s σ H x v vl vu lo hi sl Q I rx hs pl pu (i _ _ _ _ _ q)
def rMulG : R2 := fun x y H Q => ∃ (G : Hp) (l : Addr) (k : Int) (xs : List V), x = .ref l ∧ y = .int k ∧ Same G H ∧ G l = some (.tup xs) ∧ xs ≠ [] ∧ 0 ≤ k ∧ k ≤ 1000 ∧ xs.length ≤ 1000 ∧ ∀ (a : Addr) (G' H' : Hp), Nw G H G' H' → G' a = some (.tup (List.replicate k.toNat xs).flatten) → Q (.ref a) H'
theorem op_mulG {X : Cx} : OpR X (binaryOp .Mult) rMulG := OpR.imp op_mulT fun x y H Q ⟨G, l, k, xs, e1, e2, e, hl, hn, k0, k1, hz, q⟩ =>
  ⟨l, k, xs, e1, e2, SqT.of (e _ _ hl), hn, k0, k1, hz, fun z => q l G H (Nw.refl e) (by rw [z]; simpa using hl), fun _ p np => q p _ _ (Nw.mk1 e np _) upd_same⟩
def rCatG : R2 := fun x y H Q => ∃ (G : Hp) (a b : Addr) (xs ys : List V), x = .ref a ∧ y = .ref b ∧ Same G H ∧ G a = some (.tup xs) ∧ G b = some (.tup ys) ∧ xs.length + ys.length ≤ sizeLine ∧ ∀ (c : Addr) (G' H' : Hp), Nw G H G' H' → G' c = some (.tup (xs ++ ys)) → Q (.ref c) H'
theorem op_catG {X : Cx} : OpR X (binaryOp .Add) rCatG := OpR.imp op_catA fun x y H Q ⟨G, a, b, xs, ys, e1, e2, e, ha, hb, hz, q⟩ =>
  ⟨a, b, xs, ys, e1, e2, SqT.of (e _ _ ha), SqT.of (e _ _ hb), hz, fun z => q b G H (Nw.refl e) (by rw [z]; simpa using hb), fun _ z => q a G H (Nw.refl e) (by rw [z]; simpa using ha), fun _ _ p np => q p _ _ (Nw.mk1 e np _) upd_same⟩
def rSlG : V → Option Int → Option Int → Hp → VK → Prop := fun x lo hi H Q => ∃ (G : Hp) (a : Addr) (xs : List V), x = .ref a ∧ Same G H ∧ G a = some (.tup xs) ∧ ∀ (c : Addr) (G' H' : Hp), Nw G H G' H' → G' c = some (.tup (cutV xs lo hi)) → Q (.ref c) H'
theorem sl_tupG {X : Cx} : SlR X rSlG := SlR.imp sl_tupA fun x lo hi H Q ⟨G, a, xs, e1, e, ha, q⟩ =>
  ⟨a, xs, e1, SqT.of (e _ _ ha), fun z => q a G H (Nw.refl e) (by
    have : cutV xs lo hi = xs := by
      unfold cutV
      rw [z.1, z.2, List.drop_zero, Nat.sub_zero, List.take_length]
    rw [this]; exact ha), fun _ p np => q p _ _ (Nw.mk1 e np _) upd_same⟩
end My

namespace My
open PySem PySem.Spec PyProof.Rows L2
abbrev sOnce : Stmt := topS 7
theorem dp_ints {K : PySem.W.Frag} {H : Hp} {a : Addr} {l : List Int} (h : H a = some (.tup (l.map V.int))) : Dp K H (.ref a) (iTup l) := by
  refine .tup (SqT.of h) ?_
  clear h
  induction l with
  | nil => exact .nil
  | cons x r ih => exact .cons (.int x) ih
theorem eqv_ints : ∀ l m : List Int, PyData.eqvAll (l.map PyData.int) (m.map PyData.int) = decide (l = m)
  | [], [] => rfl
  | [], _ :: _ => by simp [PyData.eqvAll]
  | _ :: _, [] => by simp [PyData.eqvAll]
  | x :: l, y :: m => by
    show (PyData.eqv (.int x) (.int y) && PyData.eqvAll (l.map PyData.int) (m.map PyData.int)) = _
    rw [eqv_ints l m]
    simp only [PyData.eqv]
    by_cases h1 : x = y <;> by_cases h2 : l = m <;> simp [h1, h2]
theorem eqv_iTup (l m : List Int) : PyData.eqv (iTup l) (iTup m) = decide (l = m) := by
  unfold iTup
  simp only [PyData.eqv]
  exact eqv_ints l m
theorem shaped_iTup (l : List Int) : SeqAt.shaped (iTup l) = true := by
  have h1 : PyData.canLayAll0 (l.map PyData.int) = true := by
    induction l with
    | nil => simp [PyData.canLayAll0]
    | cons x r ih => simp only [List.map_cons, PyData.canLayAll0, PyData.canLay0, ih, Bool.and_true]
  have h2 : PyData.depthAll (l.map PyData.int) = 0 := by
    clear h1
    induction l with
    | nil => simp only [List.map_nil, PyData.depthAll]
    | cons x r ih => simp only [List.map_cons, PyData.depthAll, PyData.depth, ih]; rfl
  unfold SeqAt.shaped iTup
  simp only [PyData.canLay0, PyData.depth, h1, h2]
  rfl
theorem low_nat {N D T B : Nat} (h : N * B = D * T) (hd : 0 < D) (hb : 0 < B) (g : Nat.gcd N D = 1) : T / Nat.gcd B T = N ∧ B / Nat.gcd B T = D := by
  have d1 : D ∣ N * B := ⟨T, h⟩
  have d2 : D ∣ B := (Nat.Coprime.dvd_of_dvd_mul_left (show Nat.Coprime D N by rw [Nat.coprime_comm]; exact g) d1)
  obtain ⟨c, rfl⟩ := d2
  have ht : T = N * c := by
    have : D * (N * c) = D * T := by rw [← h]; rw [Nat.mul_left_comm]
    exact (Nat.eq_of_mul_eq_mul_left hd this).symm
  subst ht
  have c0 : 0 < c := Nat.pos_of_ne_zero fun z => by rw [z] at hb; simp at hb
  have hg : Nat.gcd (D * c) (N * c) = c := by rw [Nat.gcd_mul_right, Nat.gcd_comm D N, g, Nat.one_mul]
  rw [hg]
  exact ⟨Nat.mul_div_cancel _ c0, Nat.mul_div_cancel _ c0⟩
theorem low_int {n d t b : Int} (h : n * b = d * t) (n0 : 0 ≤ n) (d0 : 0 < d) (b0 : 0 < b) (g : Nat.gcd n.natAbs d.natAbs = 1) : t / gN t b = n ∧ b / gN t b = d := by
  have t0 : 0 ≤ t := by
    rcases Int.lt_or_le t 0 with q | q
    · have h1 : d * t < 0 := Int.mul_neg_of_pos_of_neg d0 q
      have h2 : 0 ≤ n * b := Int.mul_nonneg n0 (by omega)
      omega
    · exact q
  obtain ⟨N, rfl⟩ : ∃ N : Nat, n = (N : Int) := ⟨n.toNat, by omega⟩
  obtain ⟨D, rfl⟩ : ∃ N : Nat, d = (N : Int) := ⟨d.toNat, by omega⟩
  obtain ⟨T, rfl⟩ : ∃ N : Nat, t = (N : Int) := ⟨t.toNat, by omega⟩
  obtain ⟨B, rfl⟩ : ∃ N : Nat, b = (N : Int) := ⟨b.toNat, by omega⟩
  have h' : N * B = D * T := by
    have : ((N * B : Nat) : Int) = ((D * T : Nat) : Int) := by rw [Int.natCast_mul, Int.natCast_mul]; exact h
    omega
  obtain ⟨e1, e2⟩ := low_nat h' (by omega) (by omega) g
  have eg : gN (T : Int) (B : Int) = ((Nat.gcd B T : Nat) : Int) := rfl
  rw [eg, ← Int.natCast_ediv, ← Int.natCast_ediv, e1, e2]
  exact ⟨rfl, rfl⟩
theorem at_int {l : List Int} {i : Nat} {x : V} (hx : (l.map V.int)[i]? = some x) : ∃ z, l[i]? = some z ∧ x = .int z := by
  rw [List.getElem?_map] at hx
  cases q : l[i]? with
  | none => rw [q] at hx; cases hx
  | some z => rw [q] at hx; exact ⟨z, rfl, (Option.some.inj hx).symm⟩
theorem rep_flat2 (l : List Int) (k : Nat) : (List.replicate k (l.map V.int)).flatten = ((List.replicate k l).flatten).map V.int := by
  rw [List.map_flatten, List.map_replicate]
theorem len_rep (l : List Int) (k : Nat) : (List.replicate k l).flatten.length = k * l.length := by
  induction k with
  | zero => simp
  | succ k ih => rw [List.replicate_succ, List.flatten_cons, List.length_append, ih, Nat.succ_mul, Nat.add_comm]
/-! ### a ring of many rounds -/
def Rnd (R R' : List Int) : Prop := R' ≠ [] ∧ ∃ q, R = (List.replicate q R').flatten
theorem nb_rep (b : Int) (l : List Int) (q : Nat) : nb b (List.replicate q l).flatten * (b ^ l.length - 1) = nb b l * (b ^ (q * l.length) - 1) := by
  induction q with
  | zero => simp [nb]
  | succ q ih =>
    rw [List.replicate_succ, List.flatten_cons, nb_app, len_rep, Int.add_mul, ih, Nat.succ_mul, Int.pow_add]
    generalize nb b l = x
    generalize b ^ (q * l.length) = y
    generalize b ^ l.length = z
    simp only [Int.mul_sub, Int.mul_one, Int.mul_assoc]
    omega
theorem red_cross {t b t' b' : Int} (h : t' * b = b' * t) (t0 : 0 ≤ t') (b0 : 0 < b) (b1 : 0 < b') : t / gN t b = t' / gN t' b' ∧ b / gN t b = b' / gN t' b' := by
  obtain ⟨g, hg⟩ : ∃ g, g = gN t' b' := ⟨_, rfl⟩
  have gp : 0 < g := by
    rw [hg]; unfold gN
    have : 0 < Nat.gcd b'.natAbs t'.natAbs := Nat.gcd_pos_of_pos_left _ (by omega)
    omega
  have gt : g ∣ t' := by rw [hg]; unfold gN; exact Int.ofNat_dvd_left.mpr (Nat.gcd_dvd_right _ _)
  have gb : g ∣ b' := by rw [hg]; unfold gN; exact Int.ofNat_dvd_left.mpr (Nat.gcd_dvd_left _ _)
  obtain ⟨n, hn⟩ := gt
  obtain ⟨d, hd⟩ := gb
  have en : t' / g = n := by rw [hn]; exact Int.mul_ediv_cancel_left _ (by omega)
  have ed : b' / g = d := by rw [hd]; exact Int.mul_ediv_cancel_left _ (by omega)
  have n0 : 0 ≤ n := by
    rcases Int.lt_or_le n 0 with q | q
    · have := Int.mul_neg_of_pos_of_neg gp q
      omega
    · exact q
  have d0 : 0 < d := by
    rcases Int.lt_or_le 0 d with q | q
    · exact q
    · have := Int.mul_nonpos_of_nonneg_of_nonpos (show 0 ≤ g by omega) q
      omega
  have gc : Nat.gcd n.natAbs d.natAbs = 1 := by
    have e1 : t'.natAbs = g.natAbs * n.natAbs := by rw [hn, Int.natAbs_mul]
    have e2 : b'.natAbs = g.natAbs * d.natAbs := by rw [hd, Int.natAbs_mul]
    have e3 : g.natAbs = Nat.gcd b'.natAbs t'.natAbs := by rw [hg]; rfl
    rw [e1, e2, Nat.gcd_mul_left] at e3
    have e4 : g.natAbs * Nat.gcd d.natAbs n.natAbs = g.natAbs * 1 := by rw [← e3, Nat.mul_one]
    rw [Nat.gcd_comm]
    exact Nat.eq_of_mul_eq_mul_left (by omega) e4
  have h2 : n * b = d * t := by
    rw [hn, hd, Int.mul_assoc, Int.mul_assoc] at h
    exact Int.eq_of_mul_eq_mul_left (by omega) h
  have := low_int h2 n0 d0 b0 gc
  rw [← hg, en, ed]
  exact this
theorem rnd_q {R R' : List Int} (h : Rnd R R') (hR : R ≠ []) : ∃ q, 0 < q ∧ R = (List.replicate q R').flatten := by
  obtain ⟨_, q, e⟩ := h
  refine ⟨q, Nat.pos_of_ne_zero fun z => hR ?_, e⟩
  subst z; rw [e]; rfl
theorem rnd_digs {b : Int} {R R' : List Int} (h : Rnd R R') (hR : R ≠ []) (hd : ∀ x ∈ R, 0 ≤ x ∧ x < b) : ∀ x ∈ R', 0 ≤ x ∧ x < b := by
  obtain ⟨q, q0, e⟩ := rnd_q h hR
  intro x hx
  refine hd x ?_
  rw [e]
  exact List.mem_flatten.mpr ⟨R', List.mem_replicate.mpr ⟨by omega, rfl⟩, hx⟩
theorem rnd_len {R R' : List Int} (h : Rnd R R') (hR : R ≠ []) : R'.length ≤ R.length := by
  obtain ⟨q, q0, e⟩ := rnd_q h hR
  rw [e, len_rep]
  exact Nat.le_mul_of_pos_left _ q0
section
variable {P : Program} {w : World} {K : PySem.W.Frag} {mg : Str → Option Value} {base : Heap}
def rLenK (K : PySem.W.Frag) : List V → Hp → VK → Prop := fun xs H Q => ∃ p ys, xs = [V.ref p] ∧ (SqL K H p ys ∨ SqT K H p ys) ∧ Q (V.int (ys.length : Int)) H
def spOnce (K : PySem.W.Frag) : Sp := fun vs H Q _ => ∃ (v : V) (R : List Int) (G : Hp), vs = [v] ∧ Same G H ∧ Dq K G v (iTup R) ∧ R ≠ [] ∧ R.length ≤ 1000 ∧
  ∀ (R' : List Int) (v' : V) (G' H' : Hp), Nw G H G' H' → Dq K G' v' (iTup R') → Rnd R R' → Q v' H'
theorem scOnce : FnScope ["ring", "size", "sizes"] ["ring"] (defScope sOnce) := ⟨rfl, rfl, rfl, by decide +kernel, rfl, by decide +kernel, by decide +kernel⟩
theorem ok_once {f : Addr} {fd : FuncData} (F : Fun K "_once" "_once" sOnce f fd) (ml : mg "len" = none) (mr : mg "range" = none) : FnOk P w K mg base CX0 1 f fd ["ring"] (spOnce K) := by
  refine F.ok scOnce (fun vs H Q E h => ?_) (fun cdv A outer s H vs Q E hr h => ?_)
  · obtain ⟨v, R, G, rfl, _⟩ := h
    rfl
  · obtain ⟨v, R, G, rfl, e, dv, hR, r1, k⟩ := h
    obtain ⟨a, rfl, ga⟩ := dq_tup dv
    obtain ⟨n, hn⟩ : ∃ n, R.length = n + 1 := ⟨R.length - 1, by cases R with | nil => exact absurd rfl hR | cons x r => simp⟩
    refine ⟨_, (pss_cons (ps_setLc (i := 2) (own := [("size", 1)]) (g := gName 1) rfl scOnce.nd rfl (by rfl) (sw_true (by rfl) (by rfl) (by rfl) (by rfl)) (pi_range2 (by rfl) mr (pa_cons pe_int (pa_cons (pe_callB call_len_seq (by rfl) ml PySem.boot_len (pa_cons (pv 0) pa_nil)) pa_nil))) (blkOk_by (N := ["ring", "size", "sizes"]) (sc := defScope sOnce) (by decide +kernel)) (fun _ _ _ _ _ => (pg_name (i := 1) scOnce.nd rfl (Or.inl rfl)))
        (fun _ _ _ _ _ => pts_one (pt_cmpR op_eq (pe_op op_mod (pe_callB (show CallR _ _ (rLenK K) from call_len_seq) (by rfl) ml PySem.boot_len (pa_cons (pv 0) pa_nil)) (pv 1)) pe_int (nomark _))) (fun _ _ _ _ _ => (pv 1)))
      (pss_cons (ps_for PassesOwn.never rfl (pi_list (pv 2)) (pg_name (i := 1) scOnce.nd rfl (Or.inl rfl)) (pss_one (ps_if (pt_cmpR (op_eqD hr.units) (pe_op op_mulG (pe_slice sl_tupG (pv 0) po_none (po_some (pv 1))) (pe_op op_fdivW (pe_callB call_len_seq (by rfl) ml PySem.boot_len (pa_cons (pv 0) pa_nil)) (pv 1))) (pv 0) (nomark _)) (pss_one (ps_ret (pe_slice sl_tupG (pv 0) po_none (po_some (pv 1))))) pss_nil)))
      (pss_one (ps_ret (pv 0))))), ?_⟩
    have ln : ((R.map V.int).length : Int) = (n : Int) + 1 := by rw [List.length_map, hn]; rfl
    refine ⟨_, rfl, a, _, rfl, .inr (SqT.of (e _ _ ga)), 1, _, rfl, ⟨by decide, by decide, by omega, by omega⟩, fun D nD => ?_⟩
    rw [ln, show ((n : Int) + 1 - 1).toNat = n by omega]
    refine lc_it (walk_range (lo := 1) (n := n)) (fun i Hi => Same H Hi ∧ ∃ zs : List Nat, Hi D = some (.lst ((zs.map (fun z : Nat => (z : Int))).map V.int)) ∧ zs.length ≤ i ∧ ∀ z ∈ zs, 1 ≤ z ∧ z ≤ n) ⟨Same.upd nD, [], upd_same, Nat.le_refl _, fun _ z => nomatch z⟩ (fun _ _ _ _ => trivial) ?_ ?_
    · rintro i x Hi Hj hi ⟨si, zs, hD, hl, hz⟩ ⟨rfl, rfl⟩
      refine ⟨rfl, ?_⟩
      refine ⟨_, rfl, a, _, rfl, .inr (SqT.of (si _ _ (e _ _ ga))), _, rfl, _, _, rfl, rfl, by omega, rfl, _, rfl, ite2 (fun _ => ?_) (fun _ => ?_)⟩
      · refine ⟨_, rfl, _, hD, by rw [List.length_map, List.length_map, sizeLine_eq]; omega, fun c o hc => ?_, zs ++ [1 + i], ?_, by rw [List.length_append, List.length_singleton]; omega, fun z hz2 => ?_⟩
        · rw [upd_ne (ne_of_none hc nD)]; exact si c o hc
        · rw [upd_same, List.map_append, List.map_append]; rfl
        · rcases List.mem_append.mp hz2 with q | q
          · exact hz z q
          · rw [List.mem_singleton.mp q]; omega
      · exact ⟨si, zs, hD, by omega, hz⟩
    · rintro Hi ⟨si, zs, hD, _, hz⟩
      have gi : Same G Hi := e.trans si
      refine ⟨_, rfl, D, rfl, ⟨_, SqL.of hD⟩, for_list (K := K) (a := D) (xs := (zs.map (fun z : Nat => (z : Int))).map V.int) (fun i σ H2 => ∃ y1 : Option V, σ = [some (.ref a), y1, some (.ref D)] ∧ Same Hi H2) ⟨_, rfl, Same.refl _⟩ (fun i σ H2 _ q => SqL.of (by obtain ⟨_, _, q⟩ := q; exact q _ _ hD)) ?_ ?_⟩
      · rintro i x σ H2 hx ⟨y1, rfl, s2⟩
        obtain ⟨zi, hzi, rfl⟩ := at_int hx
        rw [List.getElem?_map] at hzi
        obtain ⟨z, hzz, rfl⟩ := Option.map_eq_some_iff.mp hzi
        obtain ⟨z1, zn⟩ := hz z (List.mem_of_getElem? hzz)
        have g2 : Same G H2 := gi.trans s2
        refine ⟨_, rfl, _, rfl, (z : Int), rfl, G, a, _, rfl, g2, ga, fun c G3 H3 m3 hc => ?_⟩
        rw [cut_take] at hc
        have ltz : (R.take z).length = z := by rw [List.length_take]; omega
        have wd : ∀ y : Int, CDivW y (z : Int) := fun y => wide_div (b := 10) (by omega) (show ((z : Int)).natAbs < 2 ^ 10 by omega) (by decide) (by decide)
        have q0 : 0 ≤ ((R.map V.int).length : Int) / (z : Int) := Int.ediv_nonneg (by omega) (by omega)
        have q1 : ((R.map V.int).length : Int) / (z : Int) ≤ 1000 := by
          have := Int.ediv_le_self (z : Int) (show 0 ≤ ((R.map V.int).length : Int) by omega)
          omega
        refine ⟨_, rfl, a, _, rfl, .inr (SqT.of (m3.gh _ _ (m3.gg _ _ ga))), _, rfl, _, _, rfl, rfl, wd _, ?_⟩
        refine ⟨G3, c, _, _, rfl, rfl, m3.gh, hc, (fun h0 => by have := congrArg List.length h0; rw [List.length_map, ltz] at this; simp at this; omega), q0, q1, by rw [List.length_map, ltz]; omega, fun m G4 H4 m4 hm => ?_⟩
        rw [rep_flat2] at hm
        have m34 := m3.trans m4
        refine ⟨_, rfl, iTup _, iTup R, dp_ints (m4.gh _ _ hm), dp_ints (m34.gh _ _ (m34.gg _ _ ga)), shaped_iTup _, shaped_iTup _, _, rfl, ?_⟩
        rw [eqv_iTup]
        refine ite2 (fun hy => ?_) (fun _ => ?_)
        · have hy := of_decide_eq_true hy
          refine ⟨_, rfl, _, rfl, (z : Int), rfl, G4, a, _, rfl, m34.gh, m34.gg _ _ ga, fun c2 G5 H5 m5 hc2 => ?_⟩
          rw [cut_take] at hc2
          exact k (R.take z) _ _ _ (Nw.pre (si.trans s2) (m34.trans m5)) (dq_mk hc2) ⟨fun h0 => by rw [h0] at ltz; simp at ltz; omega, _, hy.symm⟩
        · exact ⟨_, rfl, s2.trans m34.hh⟩
      · rintro σ H2 ⟨y1, rfl, s2⟩
        exact ⟨_, rfl, k R _ _ _ (Nw.pre (si.trans s2) (Nw.refl (gi.trans s2))) dv ⟨hR, 1, by simp⟩⟩
end
end My

namespace My
open PySem PySem.Spec PyProof.Rows L2
theorem pow_lt_2 {b : Int} (b0 : 2 ≤ b) (b1 : b ≤ 10) (k : Nat) : (b ^ k).natAbs < 2 ^ (4 * k + 1) := by
  have h : b.natAbs < 2 ^ 4 := by omega
  rw [Int.natAbs_pow]
  have h2 : b.natAbs ^ k ≤ (2 ^ 4) ^ k := Nat.pow_le_pow_left (by omega) k
  rw [← Nat.pow_mul] at h2
  have h3 : 2 ^ (4 * k) < 2 ^ (4 * k + 1) := Nat.pow_lt_pow_right (by decide) (by omega)
  omega
theorem nb_lt_2 {b : Int} (b0 : 2 ≤ b) (b1 : b ≤ 10) {l : List Int} (h : Digs b l) : (nb b l).natAbs < 2 ^ (4 * l.length + 1) := by
  obtain ⟨h1, h2⟩ := nb_rng (by omega) l h
  exact Nat.lt_of_le_of_lt (by omega) (pow_lt_2 b0 b1 l.length)
theorem pow_ge_1 {b : Int} (b0 : 2 ≤ b) (k : Nat) : 1 ≤ b ^ k := by
  have := pow_pos' (b := b) (by omega) k
  omega
theorem pow_ge_2 {b : Int} (b0 : 2 ≤ b) {k : Nat} (hk : 0 < k) : 2 ≤ b ^ k := by
  obtain ⟨j, rfl⟩ : ∃ j, k = j + 1 := ⟨k - 1, by omega⟩
  rw [Int.pow_succ]
  have h := pow_ge_1 b0 j
  have : 1 * b ≤ b ^ j * b := Int.mul_le_mul_of_nonneg_right h (by omega)
  omega
theorem bt_pos {b : Int} (b0 : 2 ≤ b) (S : List Int) {R : List Int} (hR : R ≠ []) : 0 < bt b S R := by
  unfold bt
  have h1 := pow_ge_1 b0 S.length
  have h2 := pow_ge_2 b0 (k := R.length) (by cases R with | nil => exact absurd rfl hR | cons _ _ => simp)
  exact Int.mul_pos (by omega) (by omega)
theorem tp_nn {b : Int} (b0 : 2 ≤ b) {S R : List Int} (hS : Digs b S) (hR : Digs b R) : 0 ≤ tp b S R := by
  unfold tp
  have h1 := (nb_rng (by omega) S hS).1
  have h2 := (nb_rng (by omega) R hR).1
  have h3 := pow_ge_1 b0 R.length
  exact Int.add_nonneg (Int.mul_nonneg h1 (by omega)) h2
theorem pow_sub_lt {b : Int} (b0 : 2 ≤ b) (b1 : b ≤ 10) (k : Nat) : (b ^ k - 1).natAbs < 2 ^ (4 * k + 1) := by
  have h := pow_ge_1 b0 k
  exact Nat.lt_of_le_of_lt (by omega) (pow_lt_2 b0 b1 k)
theorem bt_lt {b : Int} (b0 : 2 ≤ b) (b1 : b ≤ 10) {S R : List Int} (h : S.length + R.length ≤ 1900) : (bt b S R).natAbs < 2 ^ 8000 := by
  unfold bt
  have := wide_lt (pow_lt_2 b0 b1 S.length) (pow_sub_lt b0 b1 R.length)
  exact Nat.lt_of_lt_of_le this (Nat.pow_le_pow_right (by decide) (by omega))
section
variable {P : Program} {w : World} {K : PySem.W.Frag} {mg : Str → Option Value} {base : Heap}
theorem scNumberOf : FnScope ["base", "digits", "number", "size", "digit"] ["base", "digits"] (defScope sNumberOf) := ⟨rfl, rfl, rfl, by decide +kernel, rfl, by decide +kernel, by decide +kernel⟩
theorem small_base {b : Int} (b0 : 2 ≤ b) (b1 : b ≤ 10) (x : Int) : CMul x b := .inr ⟨by omega, by omega⟩
theorem nb_take (b : Int) (l : List Int) {i : Nat} {x : Int} (h : l[i]? = some x) : nb b (l.take (i + 1)) = nb b (l.take i) * b + x := by
  rw [List.take_add_one, h]; exact nb_snoc b _ x
theorem ok_numberOf {f : Addr} {fd : FuncData} (F : Fun K "_number_of" "_number_of" sNumberOf f fd) : FnOk P w K mg base CX0 1 f fd ["base", "digits"] (spNumberOf K) := by
  refine F.ok scNumberOf (fun vs H Q E h => ?_) (fun cdv A outer s H vs Q E hr h => ?_)
  · obtain ⟨b, v, l, G, rfl, _⟩ := h
    rfl
  · obtain ⟨b, v, l, G, rfl, b0, b1, e, dq, k⟩ := h
    obtain ⟨a, rfl, ha⟩ := dq_tup dq
    have hS : SqT K H a (l.map V.int) := SqT.of (e _ _ ha)
    refine ⟨_, (pss_cons (ps_asg (pe_tup (pa_cons pe_int (pa_cons pe_int pa_nil))) (pg_tup (by rfl) (pgs_cons (pg_name (i := 2) scNumberOf.nd rfl (Or.inl rfl)) (pgs_cons (pg_name (i := 3) scNumberOf.nd rfl (Or.inl rfl)) pgs_nil))))
      (pss_cons (ps_for PassesOwn.never rfl (pi_tup (pv 1)) (pg_name (i := 4) scNumberOf.nd rfl (Or.inl rfl)) (pss_cons (ps_set (i := 2) scNumberOf.nd rfl (Or.inl rfl) (pe_op op_add (pe_op op_mul (pv 2) (pv 0)) (pv 4)))
      (pss_one (ps_set (i := 3) scNumberOf.nd rfl (Or.inl rfl) (pe_op op_mul (pv 3) (pv 0))))))
      (pss_one (ps_ret (pe_tup (pa_cons (pv 2) (pa_cons (pv 3) pa_nil))))))), ?_⟩
    refine ⟨(by show 2 ≤ sizeLine; decide), fun t nt => ⟨t, _, rfl, SqT.of upd_same, rfl, _, _, rfl, _, _, rfl, rfl, ?_⟩⟩
    have m0 := Nw.mk1 e nt (.tup [.int 0, .int 1])
    have hS2 : SqT K (upd H t (.tup [.int 0, .int 1])) a (l.map V.int) := SqT.of (m0.hh _ _ (e _ _ ha))
    refine ⟨_, rfl, a, rfl, ⟨_, hS2⟩, for_tup (K := K) (a := a) (xs := l.map V.int) (fun i σ H2 => H2 = upd H t (.tup [.int 0, .int 1]) ∧ ∃ y : Option V, σ = [some (.int b), some (.ref a), some (.int (nb b (l.take i))), some (.int (b ^ i)), y]) ⟨rfl, none, by rw [Int.pow_zero]; rfl⟩ (fun i σ H2 _ q => by rw [q.1]; exact hS2) ?_ ?_⟩
    · rintro i x σ H2 hx ⟨rfl, y, rfl⟩
      obtain ⟨z, hz, rfl⟩ := at_int hx
      refine ⟨_, rfl, _, rfl, _, _, rfl, rfl, small_base b0 b1 _, _, rfl, _, _, rfl, rfl, ?_⟩
      refine ⟨_, rfl, _, rfl, _, _, rfl, rfl, small_base b0 b1 _, rfl, some (.int z), ?_⟩
      rw [nb_take b l hz, Int.pow_succ]
      rfl
    · rintro σ H2 ⟨rfl, y, rfl⟩
      refine ⟨_, rfl, _, rfl, (by show 2 ≤ sizeLine; decide), fun q nq => ?_⟩
      rw [List.length_map, List.take_length]
      exact k q _ _ (m0.trans (Nw.mk1 m0.gh nq _)) upd_same
theorem scLNumber : FnScope ["base", "digits", "number", "digit"] ["base", "digits"] (defScope sLNumber) := ⟨rfl, rfl, rfl, by decide +kernel, rfl, by decide +kernel, by decide +kernel⟩
theorem ok_lnumber {f : Addr} {fd : FuncData} (F : Fun K "_law_number" "_law_number" sLNumber f fd) : FnOk P w K mg base CX0 1 f fd ["base", "digits"] (spLNumber K) := by
  refine F.ok scLNumber (fun vs H Q E h => ?_) (fun cdv A outer s H vs Q E hr h => ?_)
  · obtain ⟨b, v, l, G, rfl, _⟩ := h
    rfl
  · obtain ⟨b, v, l, G, rfl, b0, b1, e, dq, k⟩ := h
    obtain ⟨a, rfl, ha⟩ := dq_tup dq
    have hS : SqT K H a (l.map V.int) := SqT.of (e _ _ ha)
    refine ⟨_, (pss_cons (ps_set (i := 2) scLNumber.nd rfl (Or.inl rfl) pe_int)
      (pss_cons (ps_for PassesOwn.never rfl (pi_tup (pv 1)) (pg_name (i := 3) scLNumber.nd rfl (Or.inl rfl)) (pss_one (ps_set (i := 2) scLNumber.nd rfl (Or.inl rfl) (pe_op op_add (pe_op op_mul (pv 2) (pv 0)) (pv 3)))))
      (pss_one (ps_ret (pv 2))))), ?_⟩
    refine ⟨_, rfl, a, rfl, ⟨_, hS⟩, for_tup (K := K) (a := a) (xs := l.map V.int) (fun i σ H2 => H2 = H ∧ ∃ y : Option V, σ = [some (.int b), some (.ref a), some (.int (nb b (l.take i))), y]) ⟨rfl, none, rfl⟩ (fun i σ H2 _ q => by rw [q.1]; exact hS) ?_ ?_⟩
    · rintro i x σ H2 hx ⟨rfl, y, rfl⟩
      obtain ⟨z, hz, rfl⟩ := at_int hx
      refine ⟨_, rfl, _, rfl, _, _, rfl, rfl, small_base b0 b1 _, _, rfl, _, _, rfl, rfl, rfl, some (.int z), ?_⟩
      rw [nb_take b l hz]
      rfl
    · rintro σ H2 ⟨rfl, y, rfl⟩
      refine ⟨_, rfl, ?_⟩
      rw [List.length_map, List.take_length]
      exact k
theorem scInLowest : FnScope ["top", "bottom", "common"] ["top", "bottom"] (defScope sInLowest) := ⟨rfl, rfl, rfl, by decide +kernel, rfl, by decide +kernel, by decide +kernel⟩
theorem ok_inLowest {f : Addr} {fd : FuncData} (F : Fun K "in_lowest_terms" "in_lowest_terms" sInLowest f fd) (gG : mg "gcd" = some (.builtin "math.gcd")) : FnOk P w K mg base CX0 1 f fd ["top", "bottom"] spInLowest := by
  refine F.ok scInLowest (fun vs H Q E h => ?_) (fun cdv A outer s H vs Q E hr h => ?_)
  · obtain ⟨a, b, rfl, _⟩ := h
    rfl
  · obtain ⟨a, b, rfl, b0, bb, k⟩ := h
    refine ⟨_, (pss_cons (ps_set (i := 2) scInLowest.nd rfl (Or.inl rfl) (pe_callBfun cr_gcd (by rfl) gG (pa_cons (pv 0) (pa_cons (pv 1) pa_nil))))
      (pss_one (ps_ret (pe_tup (pa_cons (pe_op op_fdivW (pv 0) (pv 2)) (pa_cons (pe_op op_fdivW (pv 1) (pv 2)) pa_nil)))))), ?_⟩
    have e : ((Nat.gcd a.natAbs b.natAbs : Nat) : Int) = gN a b := by unfold gN; rw [Nat.gcd_comm]
    have gp : 0 < Nat.gcd a.natAbs b.natAbs := Nat.gcd_pos_of_pos_right _ (by omega)
    have gb : Nat.gcd a.natAbs b.natAbs ≤ b.natAbs := Nat.le_of_dvd (by omega) (Nat.gcd_dvd_right _ _)
    have wd : ∀ z : Int, CDivW z ((Nat.gcd a.natAbs b.natAbs : Nat) : Int) := fun z => wide_div (b := 8000) (by omega) (Nat.lt_of_le_of_lt (by omega) bb) (by decide) (by decide)
    refine ⟨_, rfl, _, rfl, a, b, rfl, _, rfl, _, rfl, _, _, rfl, rfl, wd _, _, rfl, _, rfl, _, _, rfl, rfl, wd _, (by show 2 ≤ sizeLine; decide), fun q nq => ?_⟩
    have kq := k q nq
    rw [← e] at kq
    exact kq
theorem bt_pos' {b : Int} (b0 : 2 ≤ b) (S : List Int) {R : List Int} (hR : R ≠ []) : 0 < bt b S R := bt_pos b0 S hR
theorem tp_bt_rnd {b : Int} (S R' : List Int) (q : Nat) : tp b S R' * bt b S (List.replicate q R').flatten = bt b S R' * tp b S (List.replicate q R').flatten := by
  unfold tp bt
  have h := nb_rep b R' q
  rw [len_rep]
  generalize nb b (List.replicate q R').flatten = x at h ⊢
  generalize nb b R' = y at h ⊢
  generalize b ^ (q * R'.length) = u at h ⊢
  generalize b ^ R'.length = v at h ⊢
  generalize nb b S = s
  generalize b ^ S.length = t
  have e : (s * (v - 1) + y) * (t * (u - 1)) = t * (s * (v - 1) * (u - 1) + y * (u - 1)) := by
    rw [Int.add_mul, Int.mul_add, Int.mul_left_comm (s * (v - 1)) t, Int.mul_left_comm y t]
  have e2 : t * (v - 1) * (s * (u - 1) + x) = t * (s * (v - 1) * (u - 1) + x * (v - 1)) := by
    rw [Int.mul_assoc, Int.mul_add (v - 1), Int.mul_comm (v - 1) x, ← Int.mul_assoc (v - 1) s, Int.mul_comm (v - 1) s]
  rw [e, e2, h]
/-- the fraction of stem and ring -/
def frD (b : Int) (S R : List Int) : PyData := .tuple [.int (tp b S R / gN (tp b S R) (bt b S R)), .int (bt b S R / gN (tp b S R) (bt b S R))]
def spFractionOf (K : PySem.W.Frag) : Sp := fun vs H Q _ => ∃ (b : Int) (x y : V) (S R : List Int) (G : Hp), vs = [.int b, x, y] ∧ 2 ≤ b ∧ b ≤ 10 ∧ Same G H ∧ Dq K G x (iTup S) ∧ Dq K G y (iTup R) ∧ R ≠ [] ∧ Digs b S ∧ Digs b R ∧ S.length + R.length ≤ 1000 ∧
  ∀ (v : V) (G' H' : Hp), Nw G H G' H' → Dq K G' v (frD b S R) → Q v H'
theorem frD_rnd {b : Int} (b0 : 2 ≤ b) {S R R' : List Int} (hS : Digs b S) (hd : Digs b R) (hR : R ≠ []) (h : Rnd R R') : frD b S R' = frD b S R := by
  have hd' := rnd_digs h hR hd
  obtain ⟨q, q0, e⟩ := rnd_q h hR
  have e1 := tp_bt_rnd (b := b) S R' q
  rw [← e] at e1
  obtain ⟨c1, c2⟩ := red_cross e1 (tp_nn b0 hS hd') (bt_pos b0 S hR) (bt_pos b0 S h.1)
  unfold frD
  rw [c1, c2]
theorem scFractionOf : FnScope ["base", "stem", "ring", "ahead", "ahead_size", "around", "around_size", "rounds"] ["base", "stem", "ring"] (defScope sFractionOf) := ⟨rfl, rfl, rfl, by decide +kernel, rfl, by decide +kernel, by decide +kernel⟩
theorem ok_fractionOf {f fN fI fO : Addr} {fd fdN fdI fdO : FuncData} (F : Fun K "fraction_of" "fraction_of" sFractionOf f fd) (FN : Fun K "_number_of" "_number_of" sNumberOf fN fdN) (bN : Binds K fdN ["base", "digits"] []) (gN0 : mg "_number_of" = some (.ref fN))
    (FI : Fun K "in_lowest_terms" "in_lowest_terms" sInLowest fI fdI) (bI : Binds K fdI ["top", "bottom"] []) (gI : mg "in_lowest_terms" = some (.ref fI)) (gG : mg "gcd" = some (.builtin "math.gcd"))
    (FO : Fun K "_once" "_once" sOnce fO fdO) (bO : Binds K fdO ["ring"] []) (gO : mg "_once" = some (.ref fO)) (ml : mg "len" = none) (mr : mg "range" = none) : FnOk P w K mg base CX0 2 f fd ["base", "stem", "ring"] (spFractionOf K) := by
  have GN : FnOk P w K mg base CX0 1 fN fdN ["base", "digits"] (spNumberOf K) := ok_numberOf FN
  have GI : FnOk P w K mg base CX0 1 fI fdI ["top", "bottom"] spInLowest := ok_inLowest FI gG
  have GO : FnOk P w K mg base CX0 1 fO fdO ["ring"] (spOnce K) := ok_once FO ml mr
  refine F.ok scFractionOf (fun vs H Q E h => ?_) (fun cdv A outer s H vs Q E hr h => ?_)
  · obtain ⟨b, x, y, S, R, G, rfl, _⟩ := h
    rfl
  · obtain ⟨b, x, y, S, R, G, rfl, b0, b1, e, dx, dy, hR, dS, dR, hl, k⟩ := h
    have hr1 := hr
    refine ⟨_, (pss_cons (ps_asg (pe_call GN hr1 (by rfl) gN0 FN.kp bN .nil pass0 (pa_cons (pv 0) (pa_cons (pv 1) pa_nil))) (pg_tup (by rfl) (pgs_cons (pg_name (i := 3) scFractionOf.nd rfl (Or.inl rfl)) (pgs_cons (pg_name (i := 4) scFractionOf.nd rfl (Or.inl rfl)) pgs_nil))))
      (pss_cons (ps_asg (pe_call GN hr1 (by rfl) gN0 FN.kp bN .nil pass0 (pa_cons (pv 0) (pa_cons (pe_call GO hr1 (by rfl) gO FO.kp bO .nil pass0 (pa_cons (pv 2) pa_nil)) pa_nil))) (pg_tup (by rfl) (pgs_cons (pg_name (i := 5) scFractionOf.nd rfl (Or.inl rfl)) (pgs_cons (pg_name (i := 6) scFractionOf.nd rfl (Or.inl rfl)) pgs_nil))))
      (pss_cons (ps_set (i := 7) scFractionOf.nd rfl (Or.inl rfl) (pe_op op_sub (pv 6) pe_int))
      (pss_one (ps_ret (pe_call GI hr1 (by rfl) gI FI.kp bI .nil pass0 (pa_cons (pe_op op_add (pe_op op_mulW (pv 3) (pv 7)) (pv 5)) (pa_cons (pe_op op_mulW (pv 4) (pv 7)) pa_nil)))))))), ?_⟩
    refine ⟨_, rfl, _, rfl, b, x, S, G, rfl, b0, b1, e, dx, fun q1 G1 H1 m1 hq1 => ?_⟩
    refine ⟨q1, _, rfl, SqT.of (m1.gh _ _ hq1), rfl, _, _, rfl, _, _, rfl, rfl, ?_⟩
    refine ⟨_, rfl, _, rfl, y, R, _, rfl, m1.gh, dy.mono m1.gg, hR, by omega, fun R' y' G5 H5 m15 dy' rnd => ?_⟩
    have fe := frD_rnd b0 dS dR hR rnd
    rw [← fe] at k
    have dR' := rnd_digs rnd hR dR
    have lR' := rnd_len rnd hR
    have hR' := rnd.1
    clear fe rnd
    clear dR dy hR
    replace hl : S.length + R'.length ≤ 1000 := by omega
    refine ⟨b, y', R', _, rfl, b0, b1, m15.gh, dy', fun q2 G2 H2 m12 hq2 => ?_⟩
    refine ⟨q2, _, rfl, SqT.of (m12.gh _ _ hq2), rfl, _, _, rfl, _, _, rfl, rfl, ?_⟩
    have m2 := (m1.trans m15).trans m12
    have a1 := nb_lt_2 b0 b1 dS
    have a2 := pow_sub_lt b0 b1 R'.length
    have a3 := pow_lt_2 b0 b1 S.length
    refine ⟨_, rfl, _, _, rfl, rfl, _, rfl, _, rfl, _, _, rfl, rfl, wide_mul a1 a2 (by omega) (by omega) (by omega), _, rfl, _, _, rfl, rfl, _, rfl, _, rfl, _, _, rfl, rfl, wide_mul a3 a2 (by omega) (by omega) (by omega), ?_⟩
    refine ⟨tp b S R', bt b S R', rfl, bt_pos b0 S hR', bt_lt b0 b1 (by omega), fun q nq => ?_⟩
    have m3 := m2.trans (Nw.mk1 m2.gh nq (.tup [.int (tp b S R' / gN (tp b S R') (bt b S R')), .int (bt b S R' / gN (tp b S R') (bt b S R'))]))
    exact k _ _ _ m3 (.tup upd_same (.cons (.int _) (.cons (.int _) .nil)))
end
end My

namespace My
open PySem PySem.Spec PyProof.Rows L2
abbrev sWorth : Stmt := topS 19
abbrev sWritings : Stmt := topS 2
abbrev sLWritings : Stmt := topS 17
theorem inV_int (r : Int) (l : List Int) : inV (.int r) (l.map V.int) = decide (r ∈ l) := by
  unfold inV
  rw [List.any_map]
  induction l with
  | nil => rfl
  | cons x l ih =>
    rw [List.any_cons, ih]
    by_cases h : r = x
    · subst h
      simp [eqV]
    · have h1 : (x == r) = false := beq_eq_false_iff_ne.mpr fun z => h z.symm
      show ((x == r) || decide (r ∈ l)) = decide (r ∈ x :: l)
      rw [h1, Bool.false_or]
      exact decide_eq_decide.mpr ⟨fun z => List.mem_cons_of_mem _ z, fun z => (List.mem_cons.mp z).resolve_left h⟩
theorem flat_ints (l : List Int) : (l.map V.int).all flatV = true := by
  rw [List.all_map]
  exact List.all_eq_true.mpr fun _ _ => rfl
def rl (b d n : Int) (m : Nat) : List Int := (List.range m).map (rs b d n)
theorem rl_succ (b d n : Int) (m : Nat) : rl b d n (m + 1) = rl b d n m ++ [rs b d n m] := by
  unfold rl; rw [List.range_succ, List.map_append]; rfl
theorem rl_len (b d n : Int) (m : Nat) : (rl b d n m).length = m := by unfold rl; rw [List.length_map, List.length_range]
theorem rl_get {b d n : Int} {m i : Nat} (h : i < m) : (rl b d n m)[i]? = some (rs b d n i) := by
  unfold rl; rw [List.getElem?_map, List.getElem?_range h]; rfl
theorem rl_mem {b d n : Int} {m : Nat} {r : Int} : r ∈ rl b d n m ↔ ∃ j, j < m ∧ rs b d n j = r := by
  unfold rl
  rw [List.mem_map]
  constructor
  · rintro ⟨j, h, e⟩; exact ⟨j, List.mem_range.mp h, e⟩
  · rintro ⟨j, h, e⟩; exact ⟨j, List.mem_range.mpr h, e⟩
theorem rep_flat (x : Int) (k : Nat) : (List.replicate k [V.int x]).flatten = (List.replicate k x).map V.int := by
  induction k with
  | zero => rfl
  | succ k ih => rw [List.replicate_succ, List.flatten_cons, ih, List.replicate_succ]; rfl
theorem nb_nines (b : Int) (k : Nat) : nb b (List.replicate k (b - 1)) = b ^ k - 1 := by
  induction k with
  | zero => simp [nb]
  | succ k ih =>
    rw [List.replicate_succ', nb_snoc, ih, Int.pow_succ, Int.sub_mul]
    omega
theorem nb_zeros (b : Int) (k : Nat) : nb b (List.replicate k 0) = 0 := by
  induction k with
  | zero => simp [nb]
  | succ k ih => rw [List.replicate_succ', nb_snoc, ih]; simp
theorem nb_scale (b : Int) (k : Nat) : nb b (1 :: List.replicate k 0) = b ^ k := by
  have := nb_app b [1] (List.replicate k 0)
  rw [nb_zeros, List.length_replicate] at this
  have e : nb b [1] = 1 := by simp [nb]
  rw [e] at this
  simpa using this
section
variable {P : Program} {w : World} {K : PySem.W.Frag} {mg : Str → Option Value} {base : Heap}
theorem scLDivided : FnScope ["base", "top", "whole", "digits", "rests", "at"] ["base", "top", "whole"] (defScope sLDivided) := ⟨rfl, rfl, rfl, by decide +kernel, rfl, by decide +kernel, by decide +kernel⟩
theorem ok_ldivided {f : Addr} {fd : FuncData} (F : Fun K "_law_divided" "_law_divided" sLDivided f fd) (T : Tx mg) : FnOk P w K mg base CX0 1 f fd ["base", "top", "whole"] (spLDivided K) := by
  refine F.ok scLDivided (fun vs H Q E h => ?_) (fun cdv A outer s H vs Q E hr h => ?_)
  · obtain ⟨b, n, d, G, rfl, _⟩ := h
    rfl
  · obtain ⟨b, n, d, G, rfl, d0, ask, e, k1, k2⟩ := h
    refine ⟨_, (pss_cons (ps_if (pt_cmpR op_eq (pv 1) (pv 2) (nomark _)) (pss_one (ps_ret (pe_tup (pa_cons (pe_tup pa_nil) (pa_cons (pe_tup (pa_cons (pe_op op_sub (pv 0) pe_int) pa_nil)) pa_nil))))) pss_nil)
      (pss_cons (ps_set (i := 3) scLDivided.nd rfl (Or.inl rfl) (pe_lst pa_nil))
      (pss_cons (ps_set (i := 4) scLDivided.nd rfl (Or.inl rfl) (pe_lst pa_nil))
      (pss_cons (ps_while PassesOwn.never (pt_cmpR op_notIn_seq (pv 1) (pv 4) (by rfl)) (pss_cons (ps_expr (pe_bm PySem.F.plainAttrs_list PySem.F.slot_list_append PySem.F.type_list_append mt_append (pv 4) (pa_cons (pv 1) pa_nil)))
      (pss_cons (ps_expr (pe_bm PySem.F.plainAttrs_list PySem.F.slot_list_append PySem.F.type_list_append mt_append (pv 3) (pa_cons (pe_op op_fdivW (pe_op op_mul (pv 1) (pv 0)) (pv 2)) pa_nil)))
      (pss_one (ps_set (i := 1) scLDivided.nd rfl (Or.inl rfl) (pe_op op_mod (pe_op op_mul (pv 1) (pv 0)) (pv 2)))))))
      (pss_cons (ps_set (i := 5) scLDivided.nd rfl (Or.inl rfl) (pe_bm PySem.F.plainAttrs_list PySem.F.slot_list_index PySem.F.type_list_index mt_index (pv 4) (pa_cons (pv 1) pa_nil)))
      (pss_one (ps_ret (pe_tup (pa_cons (pe_callTy call_tuple_of (by rfl) T.tuple boot_tuple (pa_cons (pe_slice sl_list (pv 3) po_none (po_some (pv 5))) pa_nil)) (pa_cons (pe_callTy call_tuple_of (by rfl) T.tuple boot_tuple (pa_cons (pe_slice sl_list (pv 3) (po_some (pv 5)) po_none) pa_nil)) pa_nil)))))))))), ?_⟩
    refine ⟨_, rfl, _, rfl, rfl, _, rfl, ite2 (fun z => ?_) (fun z => ?_)⟩
    · have hnd : n = d := V.int.inj (of_decide_eq_true z)
      refine ⟨by decide, fun t1 nt1 => ?_⟩
      have m1 := Nw.mk1 e nt1 (.tup [])
      refine ⟨_, rfl, _, _, rfl, rfl, (by show 1 ≤ sizeLine; decide), fun t2 nt2 => ?_⟩
      have m2 := Nw.mk1 m1.gh nt2 (.tup [.int (b - 1)])
      refine ⟨(by show 2 ≤ sizeLine; decide), fun q nq => ?_⟩
      have m3 := Nw.mk1 m2.gh nq (.tup [.ref t1, .ref t2])
      exact k1 hnd _ _ _ ((m1.trans m2).trans m3) (.tup upd_same (.cons (dq_mk (l := []) (m3.gg _ _ (m2.gg _ _ upd_same))) (.cons (dq_mk (l := [b - 1]) (m3.gg _ _ upd_same)) .nil)))
    · have hnd : n ≠ d := fun q => z (decide_eq_true (by rw [q]))
      have a := ask hnd
      refine ⟨by decide, fun ld nld => ?_⟩
      refine ⟨by decide, fun lr nlr => ?_⟩
      have pl : ld ≠ lr := ne_of_none upd_same nlr
      have n0 : H lr = none := (Same.upd (o := .lst []) nld).free nlr
      refine ⟨fun μ σ H2 => ∃ i : Nat, μ + i = 1101 ∧ σ = [some (.int b), some (.int (rs b d n i)), some (.int d), some (.ref ld), some (.ref lr), none] ∧ H2 ld = some (.lst ((dl b d n i).map V.int)) ∧ H2 lr = some (.lst ((rl b d n i).map V.int)) ∧
        (∀ x y, x < y → y < i → rs b d n x ≠ rs b d n y) ∧ Same H H2,
        ⟨1101, 0, rfl, rfl, by rw [upd_ne pl]; exact upd_same, upd_same, (fun _ _ _ z => nomatch z), (Same.upd nld).trans (Same.upd nlr)⟩, ?_⟩
      rintro μ σ H2 ⟨i, hμ, rfl, hl, hr2, inj, sm⟩
      have i1 : i ≤ 1000 := soon_le a.soon inj
      refine ⟨_, rfl, _, rfl, lr, _, rfl, .inl (SqL.of hr2), rfl, flat_ints _, _, rfl, ?_⟩
      rw [inV_int]
      by_cases hm : rs b d n i ∈ rl b d n i
      · refine ifF (by rw [decide_eq_true hm]; rfl) ?_
        obtain ⟨k0, hk0, ek⟩ := rl_mem.mp hm
        have dv : Dv b d n i k0 := ⟨hk0, ek.symm, inj⟩
        refine ⟨_, rfl, .inl ⟨rfl, _, SqL.of hr2⟩, _, rfl, lr, _, .int (rs b d n i), k0, .int (rs b d n k0), rfl, rfl, SqL.of hr2, rfl, flat_ints _, (by rw [List.getElem?_map, rl_get hk0]; rfl), (by show (rs b d n k0 == rs b d n i) = true; rw [ek]; exact beq_self_eq_true _), ?_, ?_⟩
        · intro m z' hm' hz'
          rw [List.getElem?_map, rl_get (by omega)] at hz'
          obtain rfl : V.int (rs b d n m) = z' := Option.some.inj hz'
          show (rs b d n m == rs b d n i) = false
          rw [← ek]
          exact beq_eq_false_iff_ne.mpr (inj m k0 hm' hk0)
        · have g2 : Same G H2 := e.trans sm
          refine ⟨_, rfl, _, rfl, (k0 : Int), rfl, ld, _, rfl, SqL.of hl, fun p1 np1 => ?_⟩
          rw [cut_take]
          refine ⟨p1, _, rfl, .inl ⟨SqL.of upd_same, fun t1 nt1 => ?_⟩⟩
          have w1 := Nw.mk1 (g2.trans (Same.upd (o := .lst (((dl b d n i).take k0).map V.int)) np1)) nt1 (.tup (((dl b d n i).take k0).map V.int))
          have hl1 := w1.hh _ _ (Same.upd (o := .lst (((dl b d n i).take k0).map V.int)) np1 _ _ hl)
          refine ⟨_, rfl, _, rfl, (k0 : Int), rfl, ld, _, rfl, SqL.of hl1, fun p2 np2 => ?_⟩
          rw [cut_drop]
          refine ⟨p2, _, rfl, .inl ⟨SqL.of upd_same, fun t2 nt2 => ?_⟩⟩
          have w2 := Nw.mk1 (w1.gh.trans (Same.upd (o := .lst (((dl b d n i).drop k0).map V.int)) np2)) nt2 (.tup (((dl b d n i).drop k0).map V.int))
          refine ⟨(by show 2 ≤ sizeLine; decide), fun q nq => ?_⟩
          have w3 := Nw.mk1 w2.gh nq (.tup [.ref t1, .ref t2])
          refine k2 hnd i k0 dv (.ref q) _ _ ⟨(w1.gg.trans w2.gg).trans w3.gg, w3.gh, ((((sm.trans (Same.upd np1)).trans w1.hh).trans (Same.upd np2)).trans w2.hh).trans w3.hh, ?_⟩ (.tup upd_same (.cons (dq_mk (w3.gg _ _ (w2.gg _ _ upd_same))) (.cons (dq_mk (w3.gg _ _ upd_same)) .nil)))
          intro c hc
          have c2 := keep_ne sm hc
          have c3 := keep_ne (Same.upd (o := .lst (((dl b d n i).take k0).map V.int)) np1) c2
          have c4 := keep_ne w1.hh c3
          have c5 := keep_ne (Same.upd (o := .lst (((dl b d n i).drop k0).map V.int)) np2) c4
          have c6 := keep_ne w2.hh c5
          rw [w3.old c c6, w2.old c c5, w1.old c c3]
      · refine ifT (by rw [decide_eq_false hm]; rfl) ⟨fun σ' H' => ∃ m', m' < μ ∧ ∃ i : Nat, m' + i = 1101 ∧ σ' = [some (.int b), some (.int (rs b d n i)), some (.int d), some (.ref ld), some (.ref lr), none] ∧ H' ld = some (.lst ((dl b d n i).map V.int)) ∧ H' lr = some (.lst ((rl b d n i).map V.int)) ∧
          (∀ x y, x < y → y < i → rs b d n x ≠ rs b d n y) ∧ Same H H', fun σ' H' q => q, ?_⟩
        have new : ∀ j, j < i → rs b d n j ≠ rs b d n i := fun j hj z => hm (rl_mem.mpr ⟨j, hj, z⟩)
        refine ⟨_, rfl, .inl ⟨rfl, _, SqL.of hr2⟩, _, rfl, lr, _, _, rfl, rfl, hr2, (by rw [List.length_map, rl_len, sizeLine_eq]; omega), ?_⟩
        have hl2 : upd H2 lr (.lst ((rl b d n i).map V.int ++ [.int (rs b d n i)])) ld = some (.lst ((dl b d n i).map V.int)) := by rw [upd_ne pl]; exact hl
        refine ⟨_, rfl, .inl ⟨rfl, _, SqL.of hl2⟩, _, rfl, _, rfl, _, _, rfl, rfl, small_base a.b0 a.b1 _, _, rfl, _, _, rfl, rfl, wide_div d0 a.dz (by decide) (by decide), ld, _, _, rfl, rfl, hl2, (by rw [List.length_map, dl_len, sizeLine_eq]; omega), ?_⟩
        refine ⟨_, rfl, _, rfl, _, _, rfl, rfl, small_base a.b0 a.b1 _, _, rfl, _, _, rfl, rfl, d0, ?_⟩
        refine ⟨1101 - (i + 1), by omega, i + 1, by omega, rfl, ?_, ?_, ?_, ?_⟩
        · rw [upd_same, dl_succ, List.map_append]; rfl
        · rw [upd_ne pl.symm, upd_same, rl_succ, List.map_append]; rfl
        · intro x y hxy hy
          rcases Nat.lt_or_ge y i with q | q
          · exact inj x y hxy q
          · have : y = i := by omega
            subst this
            exact new x hxy
        · intro c o hc
          rw [upd_ne (ne_of_none hc nld), upd_ne (ne_of_none hc n0)]
          exact sm c o hc
def spWorth (K : PySem.W.Frag) : Sp := fun vs H Q _ => ∃ (b : Int) (x y : V) (S R : List Int) (G : Hp), vs = [.int b, x, y] ∧ 2 ≤ b ∧ b ≤ 10 ∧ Same G H ∧ Dq K G x (iTup S) ∧ Dq K G y (iTup R) ∧ R ≠ [] ∧ Digs b S ∧ Digs b R ∧ S.length + R.length ≤ 900 ∧
  ∀ (v : V) (G' H' : Hp), Nw G H G' H' → Dq K G' v (frD b S R) → Q v H'
theorem scWorth : FnScope ["base", "stem", "ring", "nines", "scale"] ["base", "stem", "ring"] (defScope sWorth) := ⟨rfl, rfl, rfl, by decide +kernel, rfl, by decide +kernel, by decide +kernel⟩
theorem ok_worth {f fNu fR : Addr} {fd fdNu fdR : FuncData} (F : Fun K "_law_worth" "_law_worth" sWorth f fd) (T : Tx mg) (FNu : Fun K "_law_number" "_law_number" sLNumber fNu fdNu) (bNu : Binds K fdNu ["base", "digits"] []) (gNu : mg "_law_number" = some (.ref fNu))
    (FR : Fun K "_law_reduced" "_law_reduced" sRed fR fdR) (bR : Binds K fdR ["top", "whole"] []) (gR : mg "_law_reduced" = some (.ref fR)) : FnOk P w K mg base CX0 2 f fd ["base", "stem", "ring"] (spWorth K) := by
  have GNu : FnOk P w K mg base CX0 1 fNu fdNu ["base", "digits"] (spLNumber K) := ok_lnumber FNu
  have GR : FnOk P w K mg base CX0 1 fR fdR ["top", "whole"] spRed := ok_red FR
  refine F.ok scWorth (fun vs H Q E h => ?_) (fun cdv A outer s H vs Q E hr h => ?_)
  · obtain ⟨b, x, y, S, R, G, rfl, _⟩ := h
    rfl
  · obtain ⟨b, x, y, S, R, G, rfl, b0, b1, e, dx, dy, hR, dS, dR, hl, k⟩ := h
    have hr1 := hr
    obtain ⟨xa, rfl, hxa⟩ := dq_tup dx
    obtain ⟨ya, rfl, hya⟩ := dq_tup dy
    have r1 : 1 ≤ R.length := by cases R with | nil => exact absurd rfl hR | cons _ _ => simp
    refine ⟨_, (pss_cons (ps_set (i := 3) scWorth.nd rfl (Or.inl rfl) (pe_call GNu hr1 (by rfl) gNu FNu.kp bNu .nil pass0 (pa_cons (pv 0) (pa_cons (pe_op op_mulG (pe_tup (pa_cons (pe_op op_sub (pv 0) pe_int) pa_nil)) (pe_callB call_len_seq (by rfl) T.len PySem.boot_len (pa_cons (pv 2) pa_nil))) pa_nil))))
      (pss_cons (ps_set (i := 4) scWorth.nd rfl (Or.inl rfl) (pe_call GNu hr1 (by rfl) gNu FNu.kp bNu .nil pass0 (pa_cons (pv 0) (pa_cons (pe_op op_catG (pe_tup (pa_cons pe_int pa_nil)) (pe_op op_mulG (pe_tup (pa_cons pe_int pa_nil)) (pe_callB call_len_seq (by rfl) T.len PySem.boot_len (pa_cons (pv 1) pa_nil)))) pa_nil))))
      (pss_one (ps_ret (pe_call GR hr1 (by rfl) gR FR.kp bR .nil pass0 (pa_cons (pe_op op_add (pe_op op_mulW (pe_call GNu hr1 (by rfl) gNu FNu.kp bNu .nil pass0 (pa_cons (pv 0) (pa_cons (pv 1) pa_nil))) (pv 3)) (pe_call GNu hr1 (by rfl) gNu FNu.kp bNu .nil pass0 (pa_cons (pv 0) (pa_cons (pv 2) pa_nil)))) (pa_cons (pe_op op_mulW (pv 4) (pv 3)) pa_nil))))))), ?_⟩
    -- nines
    refine ⟨_, rfl, _, rfl, _, _, rfl, rfl, (by show 1 ≤ sizeLine; decide), fun t1 nt1 => ?_⟩
    have m1 := Nw.mk1 e nt1 (.tup [.int (b - 1)])
    refine ⟨_, rfl, ya, _, rfl, .inr (SqT.of (m1.hh _ _ (e _ _ hya))), _, t1, _, _, rfl, rfl, m1.gh, upd_same, (by simp), (by rw [List.length_map]; omega), (by rw [List.length_map]; omega), (by simp), fun ta G1 H1 m2 hta => ?_⟩
    have m2' := m1.trans m2
    rw [List.length_map, Int.toNat_natCast, rep_flat] at hta
    refine ⟨b, .ref ta, List.replicate R.length (b - 1), G1, rfl, b0, b1, m2.gh, dq_mk hta, ?_⟩
    -- scale
    refine ⟨_, rfl, (by show 1 ≤ sizeLine; decide), fun t2 nt2 => ?_⟩
    have m3 := Nw.mk1 m2.gh nt2 (.tup [.int 1])
    refine ⟨(by show 1 ≤ sizeLine; decide), fun t3 nt3 => ?_⟩
    have m4 := Nw.mk1 m3.gh nt3 (.tup [.int 0])
    have m14 := (m2'.trans m3).trans m4
    refine ⟨_, rfl, xa, _, rfl, .inr (SqT.of (m14.gh _ _ (m14.gg _ _ hxa))), _, t3, _, _, rfl, rfl, m4.gh, upd_same, (by simp), (by rw [List.length_map]; omega), (by rw [List.length_map]; omega), (by simp), fun tb G2 H2 m5 htb => ?_⟩
    rw [List.length_map, Int.toNat_natCast, rep_flat] at htb
    refine ⟨G2, t2, tb, _, _, rfl, rfl, m5.gh, m5.gg _ _ (m4.gg _ _ upd_same), htb, (by rw [List.length_map, List.length_replicate, sizeLine_eq]; simp only [List.length_cons, List.length_nil]; omega), fun tc G3 H3 m6 htc => ?_⟩
    have m16 := (m14.trans m5).trans m6
    refine ⟨b, .ref tc, 1 :: List.replicate S.length 0, G3, rfl, b0, b1, m6.gh, dq_mk htc, ?_⟩
    -- the end
    rw [nb_nines, nb_scale]
    have dx3 := dx.mono m16.gg
    have dy3 := dy.mono m16.gg
    have a1 := nb_lt_2 b0 b1 dS
    have a2 := pow_sub_lt b0 b1 R.length
    have a3 := pow_lt_2 b0 b1 S.length
    refine ⟨_, rfl, _, rfl, b, _, S, G3, rfl, b0, b1, m6.gh, dx3, _, rfl, _, _, rfl, rfl, wide_mul a1 a2 (by omega) (by omega) (by omega), _, rfl, _, rfl, b, _, R, G3, rfl, b0, b1, m6.gh, dy3, _, _, rfl, rfl, _, rfl, _, rfl, _, _, rfl, rfl, wide_mul a3 a2 (by omega) (by omega) (by omega), ?_⟩
    refine ⟨tp b S R, bt b S R, rfl, tp_nn b0 dS dR, bt_pos b0 S hR, bt_lt b0 b1 (by omega), fun q nq => ?_⟩
    exact k _ _ _ (m16.trans (Nw.mk1 m6.gh nq _)) (.tup upd_same (.cons (.int _) (.cons (.int _) .nil)))
end
end My

namespace My
open PySem PySem.Spec PyProof.Rows L2
def less (S : List Int) : List Int := match S.reverse with
  | [] => []
  | z :: r => r.reverse ++ [z - 1]
theorem less_snoc (T : List Int) (z : Int) : less (T ++ [z]) = T ++ [z - 1] := by
  unfold less
  rw [List.reverse_append]
  show T.reverse.reverse ++ [z - 1] = T ++ [z - 1]
  rw [List.reverse_reverse]
def wOf (b : Int) (S R : List Int) : List (List Int × List Int) := if R = [0] ∧ S ≠ [] then [(S, R), (less S, [b - 1])] else [(S, R)]
def pairD (p : List Int × List Int) : PyData := .tuple [iTup p.1, iTup p.2]
def WR (b n d : Int) (W : List (List Int × List Int)) : Prop := (n = d ∧ W = [([], [b - 1])]) ∨ (n ≠ d ∧ ∃ m k, Dv b d n m k ∧ W = wOf b ((dl b d n m).take k) ((dl b d n m).drop k))
theorem WR.uniq {b n d : Int} {W W' : List (List Int × List Int)} (h : WR b n d W) (h' : WR b n d W') : W = W' := by
  rcases h with ⟨e, rfl⟩ | ⟨e, m, k, dv, rfl⟩
  · rcases h' with ⟨_, rfl⟩ | ⟨e', _⟩
    · rfl
    · exact absurd e e'
  · rcases h' with ⟨e', _⟩ | ⟨_, m', k', dv', rfl⟩
    · exact absurd e' e
    · obtain ⟨rfl, rfl⟩ := dv.uniq dv'
      rfl
structure Fra (b n d : Int) : Prop where
  b0 : 2 ≤ b
  b1 : b ≤ 10
  n0 : 0 ≤ n
  nd : n ≤ d
  d0 : 0 < d
  dz : d.natAbs < 2 ^ 8000
  soon : n ≠ d → Soon b d n
  gc : Nat.gcd n.natAbs d.natAbs = 1
theorem Fra.ask {b n d : Int} (h : Fra b n d) (z : n ≠ d) : Asked b d n := ⟨h.b0, h.b1, h.n0, by have := h.nd; omega, h.dz, h.soon z, h.gc⟩
def spWr (K : PySem.W.Frag) : Sp := fun vs H Q _ => ∃ (b n d : Int) (v : V) (G : Hp), vs = [.int b, v] ∧ Same G H ∧ Dq K G v (.tuple [.int n, .int d]) ∧ Fra b n d ∧
  ∀ W, WR b n d W → ∀ (q : Addr) (ws : List V) (G' H' : Hp), Nw G H G' H' → H' q = some (.lst ws) → G' q = none → H q = none → DqAll K G' ws (W.map pairD) → Q (.ref q) H'
theorem dq_pair {K : PySem.W.Frag} {G : Hp} {v : V} {n d : Int} (h : Dq K G v (.tuple [.int n, .int d])) : ∃ a, v = .ref a ∧ G a = some (.tup [.int n, .int d]) := dq_tup (l := [n, d]) h
theorem dq_two {K : PySem.W.Frag} {G : Hp} {v : V} {S R : List Int} (h : Dq K G v (.tuple [iTup S, iTup R])) : ∃ a x y, v = .ref a ∧ G a = some (.tup [.ref x, .ref y]) ∧ G x = some (.tup (S.map V.int)) ∧ G y = some (.tup (R.map V.int)) := by
  cases h with
  | tup hs ha =>
    cases ha with
    | cons h1 h2 =>
      cases h2 with
      | cons h2 h3 =>
        cases h3
        obtain ⟨x, rfl, hx⟩ := dq_tup h1
        obtain ⟨y, rfl, hy⟩ := dq_tup h2
        exact ⟨_, x, y, rfl, hs, hx, hy⟩
section
variable {P : Program} {w : World} {K : PySem.W.Frag} {mg : Str → Option Value} {base : Heap}
theorem scWritings : FnScope ["base", "fraction", "top", "bottom", "stem", "ring", "lesser"] ["base", "fraction"] (defScope sWritings) := ⟨rfl, rfl, rfl, by decide +kernel, rfl, by decide +kernel, by decide +kernel⟩
theorem atI_snoc (T : List Int) (z : Int) : atI ((T ++ [z]).map V.int) (-1) = some (.int z) := by
  rw [List.map_append]; exact atI_last _ _
theorem cut_last (T : List Int) (z : Int) : cutV ((T ++ [z]).map V.int) none (some (-1)) = T.map V.int := by
  unfold cutV
  have a1 : HT.sIx ((T ++ [z]).map V.int).length 0 none = 0 := rfl
  have a2 : HT.sIx ((T ++ [z]).map V.int).length ((T ++ [z]).map V.int).length (some (-1)) = T.length := by
    unfold HT.sIx
    simp only
    rw [if_pos (by decide), List.length_map, List.length_append, List.length_singleton]
    omega
  rw [a1, a2, List.drop_zero, Nat.sub_zero, List.map_append, List.take_left' (by rw [List.length_map])]
theorem ok_writings {f fDv : Addr} {fd fdDv : FuncData} (F : Fun K "writings_of" "writings_of" sWritings f fd) (T : Tx mg) (FDv : Fun K "_divided" "_divided" sDivided fDv fdDv) (GDv : FnOk P w K mg base CX0 2 fDv fdDv ["base", "top", "bottom"] (spDivided K)) (bDv : Binds K fdDv ["base", "top", "bottom"] []) (gDv : mg "_divided" = some (.ref fDv)) :
    FnOk P w K mg base CX0 3 f fd ["base", "fraction"] (spWr K) := by
  refine F.ok scWritings (fun vs H Q E h => ?_) (fun cdv A outer s H vs Q E hr h => ?_)
  · obtain ⟨b, n, d, v, G, rfl, _⟩ := h
    rfl
  · obtain ⟨b, n, d, v, G, rfl, e, dv, fr, k⟩ := h
    have hr1 := hr
    obtain ⟨a, rfl, ha⟩ := dq_pair dv
    refine ⟨_, (pss_cons (ps_asg (pv 1) (pg_tup (by rfl) (pgs_cons (pg_name (i := 2) scWritings.nd rfl (Or.inl rfl)) (pgs_cons (pg_name (i := 3) scWritings.nd rfl (Or.inl rfl)) pgs_nil))))
      (pss_cons (ps_if (pt_cmpR op_eq (pv 2) (pv 3) (nomark _)) (pss_one (ps_ret (pe_lst (pa_cons (pe_tup (pa_cons (pe_tup pa_nil) (pa_cons (pe_tup (pa_cons (pe_op op_sub (pv 0) pe_int) pa_nil)) pa_nil))) pa_nil)))) pss_nil)
      (pss_cons (ps_asg (pe_call GDv hr1 (by rfl) gDv FDv.kp bDv .nil pass0 (pa_cons (pv 0) (pa_cons (pv 2) (pa_cons (pv 3) pa_nil)))) (pg_tup (by rfl) (pgs_cons (pg_name (i := 4) scWritings.nd rfl (Or.inl rfl)) (pgs_cons (pg_name (i := 5) scWritings.nd rfl (Or.inl rfl)) pgs_nil))))
      (pss_cons (ps_if (PW.pt (pw_or (pt_cmpR (op_neD hr.units) (pv 5) (pe_tup (pa_cons pe_int pa_nil)) (nomark _)) (pw_or1 (pt_not (pt_truth (pv 4) (by intro _; rfl)))))) (pss_one (ps_ret (pe_lst (pa_cons (pe_tup (pa_cons (pv 4) (pa_cons (pv 5) pa_nil))) pa_nil)))) pss_nil)
      (pss_cons (ps_set (i := 6) scWritings.nd rfl (Or.inl rfl) (pe_op op_catG (pe_slice sl_tupG (pv 4) po_none (po_some (pe_un un_neg pe_int))) (pe_tup (pa_cons (pe_op op_sub (pe_ix ix_tup (pv 4) (pe_un un_neg pe_int) (fun _ _ => rfl)) pe_int) pa_nil))))
      (pss_one (ps_ret (pe_lst (pa_cons (pe_tup (pa_cons (pv 4) (pa_cons (pv 5) pa_nil))) (pa_cons (pe_tup (pa_cons (pv 6) (pa_cons (pe_tup (pa_cons (pe_op op_sub (pv 0) pe_int) pa_nil)) pa_nil))) pa_nil)))))))))), ?_⟩
    refine ⟨_, rfl, a, _, rfl, SqT.of (e _ _ ha), rfl, _, _, rfl, _, _, rfl, rfl, ?_⟩
    refine ⟨_, rfl, _, rfl, rfl, _, rfl, ite2 (fun z => ?_) (fun z => ?_)⟩
    · have hnd : n = d := V.int.inj (of_decide_eq_true z)
      refine ⟨by decide, fun t1 nt1 => ?_⟩
      have m1 := Nw.mk1 e nt1 (.tup [])
      refine ⟨_, rfl, _, _, rfl, rfl, (by show 1 ≤ sizeLine; decide), fun t2 nt2 => ?_⟩
      have m2 := Nw.mk1 m1.gh nt2 (.tup [.int (b - 1)])
      refine ⟨(by show 2 ≤ sizeLine; decide), fun t3 nt3 => ?_⟩
      have m3 := Nw.mk1 m2.gh nt3 (.tup [.ref t1, .ref t2])
      refine ⟨(by show 1 ≤ sizeLine; decide), fun q nq => ?_⟩
      have m := ((m1.trans m2).trans m3)
      have m4 := lst_new m nq (.lst [.ref t3])
      exact k [([], [b - 1])] (.inl ⟨hnd, rfl⟩) q _ _ _ m4 upd_same (m.gh.free nq) (m.hh.free nq) (.cons (.tup upd_same (.cons (dq_mk (l := []) (m3.gg _ _ (m2.gg _ _ upd_same))) (.cons (dq_mk (l := [b - 1]) (m3.gg _ _ upd_same)) .nil))) .nil)
    · have hnd : n ≠ d := fun q => z (decide_eq_true (by rw [q]))
      refine ⟨_, rfl, _, rfl, _, rfl, b, n, d, G, rfl, fr.ask hnd, e, fun m0 k0 hd v1 G1 H1 m1 d1 => ?_⟩
      obtain ⟨S, hS⟩ : ∃ S, (dl b d n m0).take k0 = S := ⟨_, rfl⟩
      obtain ⟨R, hR⟩ : ∃ R, (dl b d n m0).drop k0 = R := ⟨_, rfl⟩
      have kk := fun W (hw : W = wOf b S R) => k W (.inr ⟨hnd, m0, k0, hd, by rw [hS, hR]; exact hw⟩)
      rw [hS, hR] at d1
      obtain ⟨pa, x, y, rfl, hpa, hx, hy⟩ := dq_two d1
      refine ⟨pa, _, rfl, SqT.of (m1.gh _ _ hpa), rfl, _, _, rfl, _, _, rfl, rfl, ?_⟩
      refine ⟨_, rfl, (by show 1 ≤ sizeLine; decide), fun t0 nt0 => ?_⟩
      have m2 := Nw.mk1 m1.gh nt0 (.tup [.int 0])
      have m12 := m1.trans m2
      refine ⟨iTup R, iTup [0], dp_ints (m2.gh _ _ (m2.gg _ _ hy)), dp_ints (l := [0]) upd_same, shaped_iTup _, shaped_iTup _, _, rfl, ?_⟩
      rw [eqv_iTup]
      have one : ∀ (G2 H2 : Hp), Nw G H G2 H2 → G2 x = some (.tup (S.map V.int)) → G2 y = some (.tup (R.map V.int)) → wOf b S R = [(S, R)] → ∀ t3, H2 t3 = none → ∀ q, (upd H2 t3 (.tup [.ref x, .ref y])) q = none → Q (.ref q) (upd (upd H2 t3 (.tup [.ref x, .ref y])) q (.lst [.ref t3])) := by
        intro G2 H2 n2 hx2 hy2 hw t3 nt3 q nq
        have m3 := n2.trans (Nw.mk1 n2.gh nt3 (.tup [.ref x, .ref y]))
        have m4 := lst_new m3 nq (.lst [.ref t3])
        have gg3 := (Nw.mk1 n2.gh nt3 (.tup [.ref x, .ref y])).gg
        exact kk [(S, R)] hw.symm q _ _ _ m4 upd_same (m3.gh.free nq) (m3.hh.free nq) (.cons (.tup upd_same (.cons (dq_mk (gg3 _ _ hx2)) (.cons (dq_mk (gg3 _ _ hy2)) .nil))) .nil)
      by_cases hR0 : R = [0]
      · refine ifF (by rw [decide_eq_true hR0]; rfl) ?_
        refine ⟨_, rfl, !(S.map V.int).isEmpty, .inr (.inl ⟨_, SqT.of (m12.gh _ _ (m2.gg _ _ hx)), rfl⟩), ?_⟩
        rcases List.eq_nil_or_concat S with hS0 | ⟨T', z', hST⟩
        · refine ifT (by rw [hS0]; rfl) ⟨_, rfl, _, rfl, (by show 2 ≤ sizeLine; decide), fun t3 nt3 => ⟨(by show 1 ≤ sizeLine; decide), fun q nq => ?_⟩⟩
          exact one _ _ m12 (m2.gg _ _ hx) (m2.gg _ _ hy) (by unfold wOf; rw [if_neg (fun z => z.2 hS0)]) t3 nt3 q nq
        · rw [List.concat_eq_append] at hST
          have hx' := hx
          rw [hST] at hx'
          refine ifF (by rw [hST]; simp) ?_
          -- lesser
          refine ⟨_, rfl, _, rfl, -1, rfl, _, x, _, rfl, m12.gh, m2.gg _ _ hx', fun c G3 H3 m3 hc => ?_⟩
          rw [cut_last] at hc
          have m13 := m12.trans m3
          have hx3 := m3.gg _ _ (m2.gg _ _ hx')
          refine ⟨_, rfl, _, rfl, x, _, -1, .int z', rfl, rfl, SqT.of (m3.gh _ _ hx3), atI_snoc T' z', _, _, rfl, rfl, (by show 1 ≤ sizeLine; decide), fun t4 nt4 => ?_⟩
          have m4 := Nw.mk1 m3.gh nt4 (.tup [.int (z' - 1)])
          refine ⟨_, c, t4, _, _, rfl, rfl, m4.gh, m4.gg _ _ hc, upd_same, ?_, fun u G5 H5 m5 hu => ?_⟩
          · have := dl_len b d n m0
            have h2 : S.length ≤ m0 := by rw [← hS, List.length_take, dl_len]; omega
            have h3 : m0 ≤ 1000 := soon_le (fr.soon hnd) hd.inj
            rw [List.length_map, sizeLine_eq]
            rw [hST, List.length_append] at h2
            simp only [List.length_cons, List.length_nil] at h2 ⊢
            omega
          have hu' : G5 u = some (.tup ((less S).map V.int)) := by
            rw [hST, less_snoc, List.map_append]; exact hu
          have g45 := m4.gg.trans m5.gg
          have m15 := (m13.trans m4).trans m5
          refine ⟨_, rfl, _, rfl, (by show 2 ≤ sizeLine; decide), fun t5 nt5 => ?_⟩
          have m6 := Nw.mk1 m5.gh nt5 (.tup [.ref x, .ref y])
          refine ⟨_, rfl, _, rfl, _, _, rfl, rfl, (by show 1 ≤ sizeLine; decide), fun t6 nt6 => ?_⟩
          have m7 := Nw.mk1 m6.gh nt6 (.tup [.int (b - 1)])
          refine ⟨(by show 2 ≤ sizeLine; decide), fun t7 nt7 => ?_⟩
          have m8 := Nw.mk1 m7.gh nt7 (.tup [.ref u, .ref t6])
          refine ⟨(by show 2 ≤ sizeLine; decide), fun q nq => ?_⟩
          have m18 := ((m15.trans m6).trans m7).trans m8
          have m9 := lst_new m18 nq (.lst [.ref t5, .ref t7])
          have gall := (m6.gg.trans m7.gg).trans m8.gg
          have hx5 : G5 x = some (.tup (S.map V.int)) := by rw [hST]; exact g45 _ _ hx3
          have hy5 := g45 _ _ (m3.gg _ _ (m2.gg _ _ hy))
          refine kk [(S, R), (less S, [b - 1])] ?_ q _ _ _ m9 upd_same (m18.gh.free nq) (m18.hh.free nq) (.cons (.tup (m8.gg _ _ (m7.gg _ _ upd_same)) (.cons (dq_mk (gall _ _ hx5)) (.cons (dq_mk (gall _ _ hy5)) .nil))) (.cons (.tup upd_same (.cons (dq_mk (gall _ _ hu')) (.cons (dq_mk (l := [b - 1]) (m8.gg _ _ upd_same)) .nil))) .nil))
          unfold wOf
          rw [if_pos ⟨hR0, by rw [hST]; simp⟩]
      · refine ifT (by rw [decide_eq_false hR0]; rfl) ⟨_, rfl, _, rfl, (by show 2 ≤ sizeLine; decide), fun t3 nt3 => ⟨(by show 1 ≤ sizeLine; decide), fun q nq => ?_⟩⟩
        exact one _ _ m12 (m2.gg _ _ hx) (m2.gg _ _ hy) (by unfold wOf; rw [if_neg (fun z => hR0 z.1)]) t3 nt3 q nq
end
end My

namespace My
open PySem PySem.Spec PyProof.Rows L2
abbrev sSame : Stmt := topS 13
theorem walk_zipT {K : PySem.W.Frag} {a b : Addr} {xs ys : List V} {n : Nat} (hn : n = min xs.length ys.length) : Walk (RZ.ItzT K a b) n (fun H => SqT K H a xs ∧ SqT K H b ys) (YPair (fun i => xs[i]?) (fun i => ys[i]?)) := by
  subst hn
  refine ⟨fun i H hi q => ⟨xs, ys, xs[i]'(by omega), ys[i]'(by omega), q.1, q.2, List.getElem?_eq_getElem (by omega), List.getElem?_eq_getElem (by omega)⟩, fun H q => ⟨xs, ys, q.1, q.2, by omega⟩, fun i H v H' hi q y => ?_⟩
  obtain ⟨T, x, z, h1, h2, h3, h4, h5⟩ := y
  exact ⟨T, x, z, h1, h2, h3, h4 xs q.1, h5 ys q.2⟩
def Sh : Nat → PyData → Prop
  | 0, _ => False
  | n + 1, .list ds => ds.length ≤ 5000 ∧ ∀ e ∈ ds, Sh n e
  | n + 1, .tuple ds => ds.length ≤ 5000 ∧ ∀ e ∈ ds, Sh n e
  | _ + 1, .dict _ => False
  | _ + 1, _ => True
def spSame (K : PySem.W.Frag) (n : Nat) : Sp := fun vs H Q _ => ∃ (x y : V) (d : PyData), vs = [x, y] ∧ Dq K H x d ∧ Dq K H y d ∧ Sh n d ∧ ∀ H', Same H H' → Q (.bl true) H'
structure TxS (mg : Str → Option Value) : Prop where
  isi : mg "isinstance" = none
  int : mg "int" = none
  bool : mg "bool" = none
  str : mg "str" = none
  tuple : mg "tuple" = none
  list : mg "list" = none
  len : mg "len" = none
  zip : mg "zip" = none
theorem kit_list : ∀ d : PyData, kitB (tyN d) "list" = some (isT "list" d)
  | .none => by decide +kernel
  | .bool _ => (by decide +kernel : kitB "bool" "list" = some false)
  | .int _ => (by decide +kernel : kitB "int" "list" = some false)
  | .str _ => (by decide +kernel : kitB "str" "list" = some false)
  | .list _ => (by decide +kernel : kitB "list" "list" = some true)
  | .tuple _ => (by decide +kernel : kitB "tuple" "list" = some false)
  | .dict _ => (by decide +kernel : kitB "dict" "list" = some false)
theorem kit_str : ∀ d : PyData, kitB (tyN d) "str" = some (isT "str" d)
  | .none => by decide +kernel
  | .bool _ => (by decide +kernel : kitB "bool" "str" = some false)
  | .int _ => (by decide +kernel : kitB "int" "str" = some false)
  | .str _ => (by decide +kernel : kitB "str" "str" = some true)
  | .list _ => (by decide +kernel : kitB "list" "str" = some false)
  | .tuple _ => (by decide +kernel : kitB "tuple" "str" = some false)
  | .dict _ => (by decide +kernel : kitB "dict" "str" = some false)
/-- int or str -/
theorem kit_two {K : PySem.W.Frag} (d : PyData) : PySem.W.kitAny K (.type (tyN d)) [.type "int", .type "str"] = some ((isT "int" d || isT "bool" d) || isT "str" d) := by
  refine kitAny_cons (kit_ty (kit_int d)) (fun h => ?_) fun h => by rw [h]; rfl
  rw [h, Bool.false_or]
  refine kitAny_cons (kit_ty (kit_str d)) (fun h => ?_) fun h => h
  rw [h]; exact kitAny_nil
section
variable {P : Program} {w : World} {K : PySem.W.Frag} {mg : Str → Option Value} {base : Heap}
theorem scSame : FnScope ["found", "due", "one", "other"] ["found", "due"] (defScope sSame) := ⟨rfl, rfl, rfl, by decide +kernel, rfl, by decide +kernel, by decide +kernel⟩
theorem inV_true (n : Nat) : inV (.bl false) (List.replicate n (.bl true)) = false := by
  unfold inV
  induction n with
  | zero => rfl
  | succ n ih => rw [List.replicate_succ, List.any_cons, ih]; rfl
theorem flat_true (n : Nat) : (List.replicate n (V.bl true)).all flatV = true := by
  induction n with
  | zero => rfl
  | succ n ih => rw [List.replicate_succ, List.all_cons, ih]; rfl
theorem rep_snoc (n : Nat) (x : V) : List.replicate n x ++ [x] = List.replicate (n + 1) x := List.replicate_succ'.symm
theorem ok_same {f : Addr} {fd : FuncData} (F : Fun K "_law_same" "_law_same" sSame f fd) (T : TxS mg) (bS : Binds K fd ["found", "due"] []) (gS : mg "_law_same" = some (.ref f)) : ∀ n, FnOk P w K mg base CX0 n f fd ["found", "due"] (spSame K n)
  | 0 => ⟨fun vs H Q E h => by obtain ⟨_, _, _, _, _, _, z, _⟩ := h; exact z.elim, fun A outer s H args us vs Q E hr he hb hv h => by obtain ⟨_, _, _, _, _, _, z, _⟩ := h; exact z.elim⟩
  | n + 1 => by
    have GS := ok_same F T bS gS n
    refine F.ok scSame (fun vs H Q E h => ?_) (fun cdv A outer s H vs Q E hr h => ?_)
    · obtain ⟨x, y, d, rfl, _⟩ := h
      rfl
    · obtain ⟨x, y, d, rfl, hx, hy, hs, k⟩ := h
      refine ⟨_, (pss_cons (ps_if (PW.pt (pw_or (pt_cmpR op_isN (pv 1) pe_non (nomark _)) (pw_or1 (pt_cmpR op_isN (pv 0) pe_non (nomark _))))) (pss_one (ps_ret (pe_and (pe_cmpR op_isN (pv 1) pe_non (nomark _)) (pe_one (pe_cmpR op_isN (pv 0) pe_non (nomark _)))))) pss_nil)
      (pss_cons (ps_if (PW.pt (pw_or (pt_val (pe_callB call_isi (by rfl) T.isi boot_isinstance (pa_cons (pv 1) (pa_cons (pe_bltn (v := .ty "bool") (by rfl) T.bool boot_bool rfl) pa_nil)))) (pw_or1 (pt_val (pe_callB call_isi (by rfl) T.isi boot_isinstance (pa_cons (pv 0) (pa_cons (pe_bltn (v := .ty "bool") (by rfl) T.bool boot_bool rfl) pa_nil))))))) (pss_one (ps_ret (pe_and (pe_callB call_isi (by rfl) T.isi boot_isinstance (pa_cons (pv 1) (pa_cons (pe_bltn (v := .ty "bool") (by rfl) T.bool boot_bool rfl) pa_nil))) (pe_and (pe_callB call_isi (by rfl) T.isi boot_isinstance (pa_cons (pv 0) (pa_cons (pe_bltn (v := .ty "bool") (by rfl) T.bool boot_bool rfl) pa_nil))) (pe_one (pe_cmpR op_eq (pv 0) (pv 1) (nomark _))))))) pss_nil)
      (pss_cons (ps_if (pt_val (pe_callB call_isiT (by rfl) T.isi boot_isinstance (pa_cons (pv 1) (pa_cons (pe_tup (pa_cons (pe_bltn (v := .ty "int") (by rfl) T.int boot_int rfl) (pa_cons (pe_bltn (v := .ty "str") (by rfl) T.str boot_str rfl) pa_nil))) pa_nil)))) (pss_cons (ps_if (pt_cmpR op_ne (pe_callB call_isi (by rfl) T.isi boot_isinstance (pa_cons (pv 0) (pa_cons (pe_bltn (v := .ty "int") (by rfl) T.int boot_int rfl) pa_nil))) (pe_callB call_isi (by rfl) T.isi boot_isinstance (pa_cons (pv 1) (pa_cons (pe_bltn (v := .ty "int") (by rfl) T.int boot_int rfl) pa_nil))) (nomark _)) (pss_one (ps_ret pe_bl)) pss_nil)
      (pss_one (ps_ret (pe_and (pe_callB call_isiT (by rfl) T.isi boot_isinstance (pa_cons (pv 0) (pa_cons (pe_tup (pa_cons (pe_bltn (v := .ty "int") (by rfl) T.int boot_int rfl) (pa_cons (pe_bltn (v := .ty "str") (by rfl) T.str boot_str rfl) pa_nil))) pa_nil))) (pe_one (pe_cmpR op_eq (pv 0) (pv 1) (nomark _))))))) pss_nil)
      (pss_cons (ps_if (PW.pt (pw_or (pt_cmpR op_ne (pe_callB call_isi (by rfl) T.isi boot_isinstance (pa_cons (pv 1) (pa_cons (pe_bltn (v := .ty "tuple") (by rfl) T.tuple boot_tuple rfl) pa_nil))) (pe_callB call_isi (by rfl) T.isi boot_isinstance (pa_cons (pv 0) (pa_cons (pe_bltn (v := .ty "tuple") (by rfl) T.tuple boot_tuple rfl) pa_nil))) (nomark _)) (pw_or1 (pt_cmpR op_ne (pe_callB call_isi (by rfl) T.isi boot_isinstance (pa_cons (pv 1) (pa_cons (pe_bltn (v := .ty "list") (by rfl) T.list boot_list rfl) pa_nil))) (pe_callB call_isi (by rfl) T.isi boot_isinstance (pa_cons (pv 0) (pa_cons (pe_bltn (v := .ty "list") (by rfl) T.list boot_list rfl) pa_nil))) (nomark _))))) (pss_one (ps_ret pe_bl)) pss_nil)
      (pss_cons (ps_if (pt_cmpR op_ne (pe_callB call_len_seq (by rfl) T.len PySem.boot_len (pa_cons (pv 0) pa_nil)) (pe_callB call_len_seq (by rfl) T.len PySem.boot_len (pa_cons (pv 1) pa_nil)) (nomark _)) (pss_one (ps_ret pe_bl)) pss_nil)
      (pss_one (ps_ret (pe_cmpR op_notIn_seq pe_bl (pe_lc (own := [("one", 2), ("other", 3)]) (g := gTup K 2 (gCons (gName 2) (gCons (gName 3) gNil))) (tt := tYes) rfl scSame.nd (RZ.pi_zipA (by rfl) T.zip (pa_cons (pv 0) (pa_cons (pv 1) pa_nil))) (blkOk_by (N := ["found", "due", "one", "other"]) (sc := defScope sSame) (by decide +kernel)) (fun _ _ _ _ _ => (pg_tup (by rfl) (pgs_cons (pg_name (i := 2) scSame.nd rfl (Or.inl rfl)) (pgs_cons (pg_name (i := 3) scSame.nd rfl (Or.inl rfl)) pgs_nil)))) (fun _ _ _ _ _ => pts_nil) (fun _ _ _ _ _ => (pe_call GS hr (by rfl) gS F.kp bS .nil pass0 (pa_cons (pv 2) (pa_cons (pv 3) pa_nil))))) (by rfl))))))))), ?_⟩
      have e0 := Same.refl H
      -- what both kinds of rows come to
      have seq2 : ∀ (a b : Addr) (xs ys : List V) (ds : List PyData) {H : Hp}, DqAll K H xs ds → DqAll K H ys ds → ds.length ≤ 5000 → (∀ e ∈ ds, Sh n e) → ∀ (J : It) (S : Hp → Prop), (∀ H', Same H H' → S H') → Walk J xs.length S (YPair (fun i => xs[i]?) (fun i => ys[i]?)) → Same H H →
          ∀ (D : Addr), H D = none → ∀ (Qd : Hp → Prop), (∀ H', Same H H' → H' D = some (.lst (List.replicate xs.length (.bl true))) → Qd H') → ∃ W : Nat → Nat → Hp → Prop, (∃ m, W 0 m (upd H D (.lst []))) ∧ ∀ i m H3, W i m H3 → (J.stop i H3 ∧ Qd H3) ∨ (J.go i H3 ∧ ∃ Nx : Hp → Prop, (∀ H', Nx H' → ∃ m', m' < m ∧ W (i + 1) m' H') ∧
            ∀ x H', J.yld i H3 x H' → gTup K 2 (gCons (gName 2) (gCons (gName 3) gNil)) x (wipe [some (.ref a), some (.ref b), none, none] [2, 3]) H' fun σ2 H2 => wipe σ2 [2, 3] = wipe [some (.ref a), some (.ref b), none, none] [2, 3] ∧ tYes σ2 H2 fun c H3 =>
              if c = true then (tCall (spSame K n) [] E0 (tCons (tVar 2) (tCons (tVar 3) tNil))) σ2 H3 fun y H4 => ∃ acc, H4 D = some (.lst acc) ∧ acc.length < sizeLine ∧ Nx (upd H4 D (.lst (acc ++ [y]))) else Nx H3) := by
        intro a b xs ys ds H hxs hys hl hsh J S hS hw _ D nD Qd hQd
        have lx := hxs.len
        have ly := hys.len
        refine lc_it hw (fun i H2 => i ≤ xs.length ∧ Same H H2 ∧ H2 D = some (.lst (List.replicate i (.bl true)))) ⟨Nat.zero_le _, Same.upd nD, upd_same⟩ (fun i H2 _ q => hS H2 q.2.1) ?_ (fun H2 q => hQd H2 q.2.1 q.2.2)
        rintro i v H2 H3 hi ⟨_, s2, hD⟩ ⟨T, x, y, rfl, hT, rfl, ex, ey⟩
        obtain ⟨dx, hdx, qx⟩ := hxs.get ex
        obtain ⟨dy, hdy, qy⟩ := hys.get ey
        obtain rfl : dx = dy := Option.some.inj (hdx.symm.trans hdy)
        have s3 : Same H (upd H2 T (.tup [x, y])) := s2.trans (Same.upd hT)
        refine ⟨T, _, rfl, SqT.of upd_same, rfl, _, _, rfl, _, _, rfl, rfl, rfl, ?_⟩
        unfold tYes
        dsimp only
        rw [if_pos rfl]
        refine ⟨_, rfl, _, rfl, x, y, dx, rfl, qx.mono s3, qy.mono s3, hsh dx (List.mem_of_getElem? hdx), fun H4 s4 => ?_⟩
        have hDT : D ≠ T := ne_of_none hD hT
        have hD4 := s4 _ _ (show upd H2 T (.tup [x, y]) D = _ by rw [upd_ne hDT]; exact hD)
        refine ⟨_, hD4, by rw [List.length_replicate, sizeLine_eq]; omega, hi, fun c o hc => ?_, by rw [upd_same, rep_snoc]⟩
        rw [upd_ne (ne_of_none hc nD)]
        exact s4 c o (s3 c o hc)
      cases d with
      | none =>
        cases hx; cases hy
        exact ⟨_, rfl, rfl, _, rfl, iteT ⟨_, rfl, rfl, _, rfl, iteT ⟨_, rfl, rfl, k H e0⟩⟩⟩
      | bool b =>
        cases hx; cases hy
        refine ⟨_, rfl, rfl, _, rfl, iteF ⟨_, rfl, rfl, _, rfl, iteF ?_⟩⟩
        refine ⟨_, rfl, _, _, _, _, _, rfl, .ty _, (Dq.bl b).ty e0, kit_ty (kit_bool _), _, rfl, iteT ?_⟩
        refine ⟨_, rfl, _, _, _, _, _, rfl, .ty _, (Dq.bl b).ty e0, kit_ty (kit_bool _), _, rfl, iteT ?_⟩
        refine ⟨_, rfl, _, _, _, _, _, rfl, .ty _, (Dq.bl b).ty e0, kit_ty (kit_bool _), _, rfl, iteT ?_⟩
        refine ⟨_, rfl, _, rfl, rfl, ?_⟩
        rw [decide_eq_true rfl]
        exact k H e0
      | int i =>
        cases hx; cases hy
        refine ⟨_, rfl, rfl, _, rfl, iteF ⟨_, rfl, rfl, _, rfl, iteF ?_⟩⟩
        refine ⟨_, rfl, _, _, _, _, _, rfl, .ty _, (Dq.int i).ty e0, kit_ty (kit_bool _), _, rfl, iteF ⟨_, rfl, _, _, _, _, _, rfl, .ty _, (Dq.int i).ty e0, kit_ty (kit_bool _), _, rfl, iteF ?_⟩⟩
        refine ⟨_, rfl, (by show 2 ≤ sizeLine; decide), fun t1 nt1 => ⟨_, t1, _, _, _, _, rfl, upd_same, .cons (.ty _) (.cons (.ty _) .nil), (Dq.int i).ty (Same.upd nt1), kit_two _, _, rfl, iteT ?_⟩⟩
        have s1 : Same H (upd H t1 (.tup [.ty "int", .ty "str"])) := Same.upd nt1
        refine ⟨_, rfl, _, _, _, _, _, rfl, .ty _, (Dq.int i).ty s1, kit_ty (kit_int _), _, rfl, _, _, _, _, _, rfl, .ty _, (Dq.int i).ty s1, kit_ty (kit_int _), rfl, _, rfl, iteNS rfl ?_⟩
        refine ⟨_, rfl, (by show 2 ≤ sizeLine; decide), fun t2 nt2 => ⟨_, t2, _, _, _, _, rfl, upd_same, .cons (.ty _) (.cons (.ty _) .nil), (Dq.int i).ty (s1.trans (Same.upd nt2)), kit_two _, _, rfl, iteT ?_⟩⟩
        refine ⟨_, rfl, _, rfl, rfl, ?_⟩
        rw [decide_eq_true rfl]
        exact k _ (s1.trans (Same.upd nt2))
      | str x =>
        cases hx; cases hy
        refine ⟨_, rfl, rfl, _, rfl, iteF ⟨_, rfl, rfl, _, rfl, iteF ?_⟩⟩
        refine ⟨_, rfl, _, _, _, _, _, rfl, .ty _, (Dq.str x).ty e0, kit_ty (kit_bool _), _, rfl, iteF ⟨_, rfl, _, _, _, _, _, rfl, .ty _, (Dq.str x).ty e0, kit_ty (kit_bool _), _, rfl, iteF ?_⟩⟩
        refine ⟨_, rfl, (by show 2 ≤ sizeLine; decide), fun t1 nt1 => ⟨_, t1, _, _, _, _, rfl, upd_same, .cons (.ty _) (.cons (.ty _) .nil), (Dq.str x).ty (Same.upd nt1), kit_two _, _, rfl, iteT ?_⟩⟩
        have s1 : Same H (upd H t1 (.tup [.ty "int", .ty "str"])) := Same.upd nt1
        refine ⟨_, rfl, _, _, _, _, _, rfl, .ty _, (Dq.str x).ty s1, kit_ty (kit_int _), _, rfl, _, _, _, _, _, rfl, .ty _, (Dq.str x).ty s1, kit_ty (kit_int _), rfl, _, rfl, iteNS rfl ?_⟩
        refine ⟨_, rfl, (by show 2 ≤ sizeLine; decide), fun t2 nt2 => ⟨_, t2, _, _, _, _, rfl, upd_same, .cons (.ty _) (.cons (.ty _) .nil), (Dq.str x).ty (s1.trans (Same.upd nt2)), kit_two _, _, rfl, iteT ?_⟩⟩
        refine ⟨_, rfl, _, rfl, rfl, ?_⟩
        rw [decide_eq_true rfl]
        exact k _ (s1.trans (Same.upd nt2))
      | dict ds => exact hs.elim
      | list ds =>
        have hx0 := hx
        have hy0 := hy
        cases hx with
        | lst hxs hxa =>
        cases hy with
        | lst hys hya =>
        rename_i a xs b ys
        refine ⟨_, rfl, rfl, _, rfl, iteF ⟨_, rfl, rfl, _, rfl, iteF ?_⟩⟩
        refine ⟨_, rfl, _, _, _, _, _, rfl, .ty _, hy0.ty e0, kit_ty (kit_bool _), _, rfl, iteF ⟨_, rfl, _, _, _, _, _, rfl, .ty _, hx0.ty e0, kit_ty (kit_bool _), _, rfl, iteF ?_⟩⟩
        refine ⟨_, rfl, (by show 2 ≤ sizeLine; decide), fun t1 nt1 => ⟨_, t1, _, _, _, _, rfl, upd_same, .cons (.ty _) (.cons (.ty _) .nil), hy0.ty (Same.upd nt1), kit_two _, _, rfl, iteF ?_⟩⟩
        have s1 : Same H (upd H t1 (.tup [.ty "int", .ty "str"])) := Same.upd nt1
        refine ⟨_, rfl, _, _, _, _, _, rfl, .ty _, hy0.ty s1, kit_ty (kit_tuple _), _, rfl, _, _, _, _, _, rfl, .ty _, hx0.ty s1, kit_ty (kit_tuple _), rfl, _, rfl, iteNS rfl ?_⟩
        refine ⟨_, rfl, _, _, _, _, _, rfl, .ty _, hy0.ty s1, kit_ty (kit_list _), _, rfl, _, _, _, _, _, rfl, .ty _, hx0.ty s1, kit_ty (kit_list _), rfl, _, rfl, iteNS rfl ?_⟩
        have lx := hxa.len
        have ly := hya.len
        refine ⟨_, rfl, a, xs, rfl, .inl (SqL.of (s1 _ _ hxs)), _, rfl, b, ys, rfl, .inl (SqL.of (s1 _ _ hys)), rfl, _, rfl, ifF (by rw [lx, ly]; simp) ?_⟩
        refine ⟨_, rfl, _, rfl, a, b, xs, ys, rfl, .inl ⟨SqL.of (s1 _ _ hxs), SqL.of (s1 _ _ hys), fun D nD => ?_⟩⟩
        obtain ⟨W, w0, ws⟩ := seq2 a b xs ys ds (hxa.mono s1) (hya.mono s1) hs.1 hs.2 (Itz K a b) (fun H' => SqL K H' a xs ∧ SqL K H' b ys) (fun H' s' => ⟨SqL.of (s' _ _ (s1 _ _ hxs)), SqL.of (s' _ _ (s1 _ _ hys))⟩) (walk_zip (by rw [lx, ly]; simp)) (Same.refl _) D nD
          (fun H' => ∃ p zs, V.ref D = .ref p ∧ (SqL K H' p zs ∨ SqT K H' p zs) ∧ flatV (.bl false) = true ∧ zs.all flatV = true ∧ Q (.bl (!inV (.bl false) zs)) H') (fun H' s' hD => ⟨D, _, rfl, .inl (SqL.of hD), rfl, flat_true _, by rw [inV_true]; exact k H' (s1.trans s')⟩)
        exact ⟨W, w0, ws⟩
      | tuple ds =>
        have hx0 := hx
        have hy0 := hy
        cases hx with
        | tup hxs hxa =>
        cases hy with
        | tup hys hya =>
        rename_i a xs b ys
        refine ⟨_, rfl, rfl, _, rfl, iteF ⟨_, rfl, rfl, _, rfl, iteF ?_⟩⟩
        refine ⟨_, rfl, _, _, _, _, _, rfl, .ty _, hy0.ty e0, kit_ty (kit_bool _), _, rfl, iteF ⟨_, rfl, _, _, _, _, _, rfl, .ty _, hx0.ty e0, kit_ty (kit_bool _), _, rfl, iteF ?_⟩⟩
        refine ⟨_, rfl, (by show 2 ≤ sizeLine; decide), fun t1 nt1 => ⟨_, t1, _, _, _, _, rfl, upd_same, .cons (.ty _) (.cons (.ty _) .nil), hy0.ty (Same.upd nt1), kit_two _, _, rfl, iteF ?_⟩⟩
        have s1 : Same H (upd H t1 (.tup [.ty "int", .ty "str"])) := Same.upd nt1
        refine ⟨_, rfl, _, _, _, _, _, rfl, .ty _, hy0.ty s1, kit_ty (kit_tuple _), _, rfl, _, _, _, _, _, rfl, .ty _, hx0.ty s1, kit_ty (kit_tuple _), rfl, _, rfl, iteNS rfl ?_⟩
        refine ⟨_, rfl, _, _, _, _, _, rfl, .ty _, hy0.ty s1, kit_ty (kit_list _), _, rfl, _, _, _, _, _, rfl, .ty _, hx0.ty s1, kit_ty (kit_list _), rfl, _, rfl, iteNS rfl ?_⟩
        have lx := hxa.len
        have ly := hya.len
        refine ⟨_, rfl, a, xs, rfl, .inr (SqT.of (s1 _ _ hxs)), _, rfl, b, ys, rfl, .inr (SqT.of (s1 _ _ hys)), rfl, _, rfl, ifF (by rw [lx, ly]; simp) ?_⟩
        refine ⟨_, rfl, _, rfl, a, b, xs, ys, rfl, .inr ⟨SqT.of (s1 _ _ hxs), SqT.of (s1 _ _ hys), fun D nD => ?_⟩⟩
        obtain ⟨W, w0, ws⟩ := seq2 a b xs ys ds (hxa.mono s1) (hya.mono s1) hs.1 hs.2 (RZ.ItzT K a b) (fun H' => SqT K H' a xs ∧ SqT K H' b ys) (fun H' s' => ⟨SqT.of (s' _ _ (s1 _ _ hxs)), SqT.of (s' _ _ (s1 _ _ hys))⟩) (walk_zipT (by rw [lx, ly]; simp)) (Same.refl _) D nD
          (fun H' => ∃ p zs, V.ref D = .ref p ∧ (SqL K H' p zs ∨ SqT K H' p zs) ∧ flatV (.bl false) = true ∧ zs.all flatV = true ∧ Q (.bl (!inV (.bl false) zs)) H') (fun H' s' hD => ⟨D, _, rfl, .inl (SqL.of hD), rfl, flat_true _, by rw [inV_true]; exact k H' (s1.trans s')⟩)
        exact ⟨W, w0, ws⟩
end
end My

namespace My
open PySem PySem.Spec PyProof.Rows L2
section
variable {P : Program} {w : World} {K : PySem.W.Frag} {mg : Str → Option Value} {base : Heap}
theorem scLWritings : FnScope ["base", "fraction", "stem", "ring"] ["base", "fraction"] (defScope sLWritings) := ⟨rfl, rfl, rfl, by decide +kernel, rfl, by decide +kernel, by decide +kernel⟩
theorem ok_lwritings {f fLd : Addr} {fd fdLd : FuncData} (F : Fun K "_law_writings" "_law_writings" sLWritings f fd) (T : Tx mg) (FLd : Fun K "_law_divided" "_law_divided" sLDivided fLd fdLd) (bLd : Binds K fdLd ["base", "top", "whole"] []) (gLd : mg "_law_divided" = some (.ref fLd)) :
    FnOk P w K mg base CX0 2 f fd ["base", "fraction"] (spWr K) := by
  have GLd : FnOk P w K mg base CX0 1 fLd fdLd ["base", "top", "whole"] (spLDivided K) := ok_ldivided FLd T
  refine F.ok scLWritings (fun vs H Q E h => ?_) (fun cdv A outer s H vs Q E hr h => ?_)
  · obtain ⟨b, n, d, v, G, rfl, _⟩ := h
    rfl
  · obtain ⟨b, n, d, v, G, rfl, e, dv, fr, k⟩ := h
    have hr1 := hr
    obtain ⟨a, rfl, ha⟩ := dq_pair dv
    refine ⟨_, (C8.pss_cut (ps_asg (pe_call GLd hr1 (by rfl) gLd FLd.kp bLd .nil pass0 (pa_cons (pv 0) (pa_cons (pe_ix ix_tup (pv 1) pe_int (fun _ _ => rfl)) (pa_cons (pe_ix ix_tup (pv 1) pe_int (fun _ _ => rfl)) pa_nil)))) (pg_tup (by rfl) (pgs_cons (pg_name (i := 2) scLWritings.nd rfl (Or.inl rfl)) (pgs_cons (pg_name (i := 3) scLWritings.nd rfl (Or.inl rfl)) pgs_nil))))
      (pss_cons (ps_if (PW.pt (pw_or (pt_cmpR (op_neD hr.units) (pv 3) (pe_tup (pa_cons pe_int pa_nil)) (nomark _)) (pw_or1 (pt_cmpR (op_eqD hr.units) (pv 2) (pe_tup pa_nil) (nomark _))))) (pss_one (ps_ret (pe_lst (pa_cons (pe_tup (pa_cons (pv 2) (pa_cons (pv 3) pa_nil))) pa_nil)))) pss_nil)
      (pss_one (ps_ret (pe_lst (pa_cons (pe_tup (pa_cons (pv 2) (pa_cons (pv 3) pa_nil))) (pa_cons (pe_tup (pa_cons (pe_op op_catG (pe_slice sl_tupG (pv 2) po_none (po_some (pe_un un_neg pe_int))) (pe_tup (pa_cons (pe_op op_sub (pe_ix ix_tup (pv 2) (pe_un un_neg pe_int) (fun _ _ => rfl)) pe_int) pa_nil))) (pa_cons (pe_tup (pa_cons (pe_op op_sub (pv 0) pe_int) pa_nil)) pa_nil))) pa_nil))))))), ?_⟩
    have hA : SqT K H a [.int n, .int d] := SqT.of (e _ _ ha)
    refine ⟨fun σ H' => ∃ (S R : List Int) (x y : Addr) (G1 : Hp), σ = [some (.int b), some (.ref a), some (.ref x), some (.ref y)] ∧ Nw G H G1 H' ∧ G1 x = some (.tup (S.map V.int)) ∧ G1 y = some (.tup (R.map V.int)) ∧ S.length ≤ 1100 ∧ WR b n d (wOf b S R), ?_, ?_⟩
    · refine ⟨_, rfl, _, rfl, a, _, 0, .int n, rfl, rfl, hA, atI_nat (j := 0) rfl, _, rfl, a, _, 1, .int d, rfl, rfl, hA, atI_nat (j := 1) rfl, ?_⟩
      refine ⟨b, n, d, G, rfl, fr.d0, fun z => fr.ask z, e, fun z v1 G1 H1 m1 d1 => ?_, fun z m0 k0 hd v1 G1 H1 m1 d1 => ?_⟩
      all_goals
        obtain ⟨pa, x, y, rfl, hpa, hx, hy⟩ := dq_two d1
        refine ⟨pa, _, rfl, SqT.of (m1.gh _ _ hpa), rfl, _, _, rfl, _, _, rfl, rfl, _, _, x, y, G1, rfl, m1, hx, hy, ?_, ?_⟩
      · simp
      · refine .inl ⟨z, ?_⟩
        unfold wOf
        rw [if_neg (fun q => q.2 rfl)]
      · have h3 : m0 ≤ 1000 := soon_le (fr.soon z) hd.inj
        rw [List.length_take, dl_len]; omega
      · exact .inr ⟨z, m0, k0, hd, rfl⟩
    · rintro σ H1 ⟨S, R, x, y, G1, rfl, m1, hx, hy, hSl, hW⟩
      refine ⟨_, rfl, (by show 1 ≤ sizeLine; decide), fun t0 nt0 => ?_⟩
      have m2 := Nw.mk1 m1.gh nt0 (.tup [.int 0])
      have m12 := m1.trans m2
      refine ⟨iTup R, iTup [0], dp_ints (m2.gh _ _ (m2.gg _ _ hy)), dp_ints (l := [0]) upd_same, shaped_iTup _, shaped_iTup _, _, rfl, ?_⟩
      rw [eqv_iTup]
      have one : ∀ (G2 H2 : Hp), Nw G H G2 H2 → G2 x = some (.tup (S.map V.int)) → G2 y = some (.tup (R.map V.int)) → wOf b S R = [(S, R)] → ∀ t3, H2 t3 = none → ∀ q, (upd H2 t3 (.tup [.ref x, .ref y])) q = none → Q (.ref q) (upd (upd H2 t3 (.tup [.ref x, .ref y])) q (.lst [.ref t3])) := by
        intro G2 H2 n2 hx2 hy2 hw t3 nt3 q nq
        have m3 := n2.trans (Nw.mk1 n2.gh nt3 (.tup [.ref x, .ref y]))
        have m4 := lst_new m3 nq (.lst [.ref t3])
        have gg3 := (Nw.mk1 n2.gh nt3 (.tup [.ref x, .ref y])).gg
        rw [hw] at hW
        exact k [(S, R)] hW q _ _ _ m4 upd_same (m3.gh.free nq) (m3.hh.free nq) (.cons (.tup upd_same (.cons (dq_mk (gg3 _ _ hx2)) (.cons (dq_mk (gg3 _ _ hy2)) .nil))) .nil)
      by_cases hR0 : R = [0]
      · refine ifF (by rw [decide_eq_true hR0]; rfl) ?_
        refine ⟨_, rfl, (by decide), fun tz ntz => ?_⟩
        have m3 := Nw.mk1 m2.gh ntz (.tup [])
        have m13 := m12.trans m3
        refine ⟨iTup S, iTup [], dp_ints (m3.gh _ _ (m3.gg _ _ (m2.gg _ _ hx))), dp_ints (l := []) upd_same, shaped_iTup _, shaped_iTup _, _, rfl, ?_⟩
        rw [eqv_iTup]
        rcases List.eq_nil_or_concat S with hS0 | ⟨T', z', hST⟩
        · refine ifT (by rw [hS0]; rfl) ⟨_, rfl, _, rfl, (by show 2 ≤ sizeLine; decide), fun t3 nt3 => ⟨(by show 1 ≤ sizeLine; decide), fun q nq => ?_⟩⟩
          exact one _ _ m13 (m3.gg _ _ (m2.gg _ _ hx)) (m3.gg _ _ (m2.gg _ _ hy)) (by unfold wOf; rw [if_neg (fun z => z.2 hS0)]) t3 nt3 q nq
        · rw [List.concat_eq_append] at hST
          have hx' := hx
          rw [hST] at hx'
          refine ifF (by rw [hST]; simp) ?_
          refine ⟨_, rfl, _, rfl, (by show 2 ≤ sizeLine; decide), fun t5 nt5 => ?_⟩
          have m4 := Nw.mk1 m3.gh nt5 (.tup [.ref x, .ref y])
          have m14 := m13.trans m4
          have hx4 := m4.gg _ _ (m3.gg _ _ (m2.gg _ _ hx'))
          refine ⟨_, rfl, _, rfl, -1, rfl, _, x, _, rfl, m4.gh, hx4, fun c G3 H3 m5 hc => ?_⟩
          rw [cut_last] at hc
          have hx5 := m5.gg _ _ hx4
          refine ⟨_, rfl, _, rfl, x, _, -1, .int z', rfl, rfl, SqT.of (m5.gh _ _ hx5), atI_snoc T' z', _, _, rfl, rfl, (by show 1 ≤ sizeLine; decide), fun t4 nt4 => ?_⟩
          have m6 := Nw.mk1 m5.gh nt4 (.tup [.int (z' - 1)])
          refine ⟨_, c, t4, _, _, rfl, rfl, m6.gh, m6.gg _ _ hc, upd_same, ?_, fun u G5 H5 m7 hu => ?_⟩
          · rw [hST, List.length_append] at hSl
            rw [List.length_map, sizeLine_eq]
            simp only [List.length_cons, List.length_nil] at hSl ⊢
            omega
          have hu' : G5 u = some (.tup ((less S).map V.int)) := by
            rw [hST, less_snoc, List.map_append]; exact hu
          have m17 := ((m14.trans m5).trans m6).trans m7
          refine ⟨_, rfl, _, _, rfl, rfl, (by show 1 ≤ sizeLine; decide), fun t6 nt6 => ?_⟩
          have m8 := Nw.mk1 m7.gh nt6 (.tup [.int (b - 1)])
          refine ⟨(by show 2 ≤ sizeLine; decide), fun t7 nt7 => ?_⟩
          have m9 := Nw.mk1 m8.gh nt7 (.tup [.ref u, .ref t6])
          refine ⟨(by show 2 ≤ sizeLine; decide), fun q nq => ?_⟩
          have m19 := (m17.trans m8).trans m9
          have m20 := lst_new m19 nq (.lst [.ref t5, .ref t7])
          have g49 := (((m5.gg.trans m6.gg).trans m7.gg).trans m8.gg).trans m9.gg
          have hxS : (upd G3 t4 (.tup [.int (z' - 1)])) x = some (.tup (S.map V.int)) := by rw [hST]; exact m6.gg _ _ hx5
          have g69 := (m7.gg.trans m8.gg).trans m9.gg
          have hw : wOf b S R = [(S, R), (less S, [b - 1])] := by unfold wOf; rw [if_pos ⟨hR0, by rw [hST]; simp⟩]
          rw [hw] at hW
          exact k _ hW q _ _ _ m20 upd_same (m19.gh.free nq) (m19.hh.free nq) (.cons (.tup (g49 _ _ upd_same) (.cons (dq_mk (g69 _ _ hxS)) (.cons (dq_mk (g49 _ _ (m4.gg _ _ (m3.gg _ _ (m2.gg _ _ hy))))) .nil)))
            (.cons (.tup upd_same (.cons (dq_mk (m9.gg _ _ (m8.gg _ _ hu'))) (.cons (dq_mk (l := [b - 1]) (m9.gg _ _ upd_same)) .nil))) .nil))
      · refine ifT (by rw [decide_eq_false hR0]; rfl) ⟨_, rfl, _, rfl, (by show 2 ≤ sizeLine; decide), fun t3 nt3 => ⟨(by show 1 ≤ sizeLine; decide), fun q nq => ?_⟩⟩
        exact one _ _ m12 (m2.gg _ _ hx) (m2.gg _ _ hy) (by unfold wOf; rw [if_neg (fun z => hR0 z.1)]) t3 nt3 q nq
end
end My

namespace My
open PySem PySem.Spec PyProof.Rows L2
abbrev sRight : Stmt := topS 21
/-! ### a fraction is told again by its writings -/
structure Good (b n d : Int) (p : List Int × List Int) : Prop where
  ne : p.2 ≠ []
  dS : Digs b p.1
  dR : Digs b p.2
  ln : p.1.length + p.2.length ≤ 1000
  fr : frD b p.1 p.2 = .tuple [.int n, .int d]
theorem fr_of {b n d : Int} {S R : List Int} (h : n * bt b S R = d * tp b S R) (n0 : 0 ≤ n) (d0 : 0 < d) (b0 : 2 ≤ b) (hR : R ≠ []) (g : Nat.gcd n.natAbs d.natAbs = 1) : frD b S R = .tuple [.int n, .int d] := by
  obtain ⟨e1, e2⟩ := low_int h n0 d0 (bt_pos b0 S hR) g
  unfold frD
  rw [e1, e2]
theorem last_digit {b n d : Int} {m k : Nat} (h : Dv b d n m k) (d0 : 0 < d) (n0 : 0 ≤ n) (nd : n < d) (b0 : 2 ≤ b) (hR : (dl b d n m).drop k = [0]) {T : List Int} {z : Int} (hS : (dl b d n m).take k = T ++ [z]) : 1 ≤ z := by
  have lm : m = k + 1 := by
    have := congrArg List.length hR
    rw [List.length_drop, dl_len, List.length_singleton] at this
    have := h.lt
    omega
  subst lm
  have e0 : dg b d n k = 0 := by
    have : (dl b d n (k + 1)).drop k = [dg b d n k] := by
      rw [dl_succ, List.drop_left' (dl_len b d n k)]
    rw [this] at hR
    exact (List.cons.inj hR).1
  have ek : (dl b d n (k + 1)).take k = dl b d n k := by rw [dl_succ, List.take_left' (dl_len b d n k)]
  rw [ek] at hS
  obtain ⟨j, rfl⟩ : ∃ j, k = j + 1 := by
    cases k with
    | zero =>
      have := congrArg List.length hS
      rw [dl_len, List.length_append, List.length_singleton] at this
      omega
    | succ j => exact ⟨j, rfl⟩
  rw [dl_succ] at hS
  have ez : dg b d n j = z := by
    have := List.append_inj_right' hS rfl
    exact (List.cons.inj this).1
  have r0 := rs_rng (b := b) d0 n0 nd (j + 1)
  have hk : rs b d n (j + 1) * b = d * dg b d n (j + 1) + rs b d n (j + 1 + 1) := (Int.mul_ediv_add_emod _ _).symm
  have z1 : rs b d n (j + 1) = 0 := by
    rw [e0, h.back] at hk
    rcases Int.lt_or_le 0 (rs b d n (j + 1)) with q | q
    · have : rs b d n (j + 1) * 2 ≤ rs b d n (j + 1) * b := Int.mul_le_mul_of_nonneg_left b0 (by omega)
      omega
    · omega
  obtain ⟨g0, g1⟩ := dg_rng d0 n0 nd (by omega : 0 < b) j
  rcases Int.lt_or_le z 1 with q | q
  · exfalso
    have hj : rs b d n j * b = d * dg b d n j + rs b d n (j + 1) := (Int.mul_ediv_add_emod _ _).symm
    have dz : dg b d n j = 0 := by omega
    rw [dz, z1] at hj
    have rj := rs_rng (b := b) d0 n0 nd j
    have rj0 : rs b d n j = 0 := by
      rcases Int.lt_or_le 0 (rs b d n j) with q2 | q2
      · have : rs b d n j * 2 ≤ rs b d n j * b := Int.mul_le_mul_of_nonneg_left b0 (by omega)
        omega
      · omega
    exact h.inj j (j + 1) (by omega) (by omega) (by rw [rj0, z1])
  · exact q
theorem wr_good {b n d : Int} {W : List (List Int × List Int)} (h : WR b n d W) (f : Fra b n d) (g : Nat.gcd n.natAbs d.natAbs = 1) : (∀ p ∈ W, Good b n d p) ∧ W.length ≤ 2 := by
  have b0 := f.b0
  have dig1 : Digs b [b - 1] := fun x hx => by rw [List.mem_singleton.mp hx]; omega
  rcases h with ⟨e, rfl⟩ | ⟨e, m, k, dv, rfl⟩
  · refine ⟨fun p hp => ?_, by simp⟩
    rw [List.mem_singleton.mp hp]
    refine ⟨by simp, (fun x hx => nomatch hx), dig1, by simp, fr_of ?_ f.n0 f.d0 f.b0 (by simp) g⟩
    subst e
    simp [bt, tp, nb, Int.pow_one]
  · have nd : n < d := by have := f.nd; omega
    have m1 : m ≤ 1000 := soon_le (f.soon e) dv.inj
    obtain ⟨S, hS⟩ : ∃ S, (dl b d n m).take k = S := ⟨_, rfl⟩
    obtain ⟨R, hR⟩ : ∃ R, (dl b d n m).drop k = R := ⟨_, rfl⟩
    have dall := dl_rng f.d0 f.n0 nd (by omega : 0 < b) m
    have dS : Digs b S := fun x hx => dall x (List.mem_of_mem_take (by rw [hS]; exact hx))
    have dR : Digs b R := fun x hx => dall x (List.mem_of_mem_drop (by rw [hR]; exact hx))
    have lS : S.length ≤ k := by rw [← hS, List.length_take]; omega
    have lR : R.length = m - k := by rw [← hR, List.length_drop, dl_len]
    have kl := dv.lt
    have hRn : R ≠ [] := fun z => by rw [z] at lR; simp at lR; omega
    have eq := dv_eq dv
    rw [hS, hR] at eq
    rw [hS, hR]
    have first : Good b n d (S, R) := ⟨hRn, dS, dR, by show S.length + R.length ≤ 1000; omega, fr_of eq f.n0 f.d0 f.b0 hRn g⟩
    unfold wOf
    by_cases c : R = [0] ∧ S ≠ []
    · rw [if_pos c]
      refine ⟨fun p hp => ?_, by simp⟩
      rcases List.mem_cons.mp hp with rfl | hp
      · exact first
      · rw [List.mem_singleton.mp hp]
        obtain ⟨hR0, hSn⟩ := c
        rcases List.eq_nil_or_concat S with hS0 | ⟨T, z, hST⟩
        · exact absurd hS0 hSn
        · rw [List.concat_eq_append] at hST
          have z1 := last_digit dv f.d0 f.n0 nd f.b0 (by rw [hR]; exact hR0) (by rw [hS]; exact hST)
          have zb := dS z (by rw [hST]; simp)
          have el : less S = T ++ [z - 1] := by rw [hST, less_snoc]
          refine ⟨by simp, ?_, dig1, ?_, fr_of ?_ f.n0 f.d0 f.b0 (by simp) g⟩
          · show Digs b (less S)
            rw [el]
            intro x hx
            rcases List.mem_append.mp hx with hx | hx
            · exact dS x (by rw [hST]; exact List.mem_append_left _ hx)
            · rw [List.mem_singleton.mp hx]; omega
          · show (less S).length + 1 ≤ 1000
            rw [el, List.length_append, List.length_singleton]
            rw [hST, List.length_append, List.length_singleton] at lS
            omega
          · show n * bt b (less S) [b - 1] = d * tp b (less S) [b - 1]
            rw [hR0] at eq
            have l2 : (less S).length = S.length := by rw [el, hST]; simp
            have e1 : bt b (less S) [b - 1] = bt b S [0] := by unfold bt; rw [l2]; rfl
            have e2 : tp b (less S) [b - 1] = tp b S [0] := by
              unfold tp
              have h1 : nb b S = nb b T * b + z := by rw [hST, nb_snoc]
              have h2 : nb b (less S) = nb b S - 1 := by rw [el, nb_snoc, h1]; omega
              have h3 : nb b [b - 1] = b - 1 := by simp [nb]
              have h4 : nb b [0] = 0 := by simp [nb]
              rw [h2, h3, h4]
              show (nb b S - 1) * (b ^ 1 - 1) + (b - 1) = nb b S * (b ^ 1 - 1) + 0
              rw [Int.pow_one, Int.sub_mul]
              omega
            rw [e1, e2]; exact eq
    · rw [if_neg c]
      exact ⟨fun p hp => by rw [List.mem_singleton.mp hp]; exact first, by simp⟩
theorem sh_ints {l : List Int} (h : l.length ≤ 5000) (n : Nat) : Sh (n + 2) (iTup l) := by
  refine ⟨by rw [List.length_map]; exact h, fun e he => ?_⟩
  obtain ⟨x, _, rfl⟩ := List.mem_map.mp he
  exact trivial
theorem sh_W {b n d : Int} {W : List (List Int × List Int)} (h : ∀ p ∈ W, Good b n d p) (hl : W.length ≤ 2) : Sh 4 (.list (W.map pairD)) := by
  refine ⟨by rw [List.length_map]; omega, fun e he => ?_⟩
  obtain ⟨p, hp, rfl⟩ := List.mem_map.mp he
  have := (h p hp).ln
  refine ⟨by simp, fun e he => ?_⟩
  simp only [List.mem_cons, List.not_mem_nil, or_false] at he
  rcases he with rfl | rfl
  · exact sh_ints (by omega) 0
  · exact sh_ints (by omega) 0
end My

namespace My
open PySem PySem.Spec PyProof.Rows L2
def spRight (K : PySem.W.Frag) : Sp := fun vs H Q _ => ∃ (b n d : Int) (v : V) (G : Hp), vs = [.int b, v] ∧ Same G H ∧ Dq K G v (.tuple [.int n, .int d]) ∧ Fra b n d ∧ Nat.gcd n.natAbs d.natAbs = 1 ∧ ∀ H', Same H H' → Q (.bl true) H'
section
variable {P : Program} {w : World} {K : PySem.W.Frag} {mg : Str → Option Value} {base : Heap}
structure TxR (mg : Str → Option Value) : Prop where
  range : mg "range" = none
theorem scRight : FnScope ["base", "fraction", "due", "time", "found", "stem", "ring"] ["base", "fraction"] (defScope sRight) := ⟨rfl, rfl, rfl, by decide +kernel, rfl, by decide +kernel, by decide +kernel⟩
theorem eqv_nil : PyData.eqv (.list []) (.list []) = true := rfl
theorem ok_right {f fLw fW fS fF : Addr} {fd fdLw fdW fdS fdF : FuncData} (F : Fun K "_law_right" "_law_right" sRight f fd) (T : TxR mg)
    (FLw : Fun K "_law_writings" "_law_writings" sLWritings fLw fdLw) (GLw : FnOk P w K mg base CX0 2 fLw fdLw ["base", "fraction"] (spWr K)) (bLw : Binds K fdLw ["base", "fraction"] []) (gLw : mg "_law_writings" = some (.ref fLw))
    (FW : Fun K "writings_of" "writings_of" sWritings fW fdW) (GW : FnOk P w K mg base CX0 3 fW fdW ["base", "fraction"] (spWr K)) (bW : Binds K fdW ["base", "fraction"] []) (gW : mg "writings_of" = some (.ref fW))
    (FS : Fun K "_law_same" "_law_same" sSame fS fdS) (GS : FnOk P w K mg base CX0 4 fS fdS ["found", "due"] (spSame K 4)) (bS : Binds K fdS ["found", "due"] []) (gS : mg "_law_same" = some (.ref fS))
    (FF : Fun K "fraction_of" "fraction_of" sFractionOf fF fdF) (GF : FnOk P w K mg base CX0 2 fF fdF ["base", "stem", "ring"] (spFractionOf K)) (bF : Binds K fdF ["base", "stem", "ring"] []) (gF : mg "fraction_of" = some (.ref fF)) :
    FnOk P w K mg base CX0 5 f fd ["base", "fraction"] (spRight K) := by
  refine F.ok scRight (fun vs H Q E h => ?_) (fun cdv A outer s H vs Q E hr h => ?_)
  · obtain ⟨b, n, d, v, G, rfl, _⟩ := h
    rfl
  · obtain ⟨b, n, d, v, G, rfl, e, dv, fr, g1, k⟩ := h
    have hr4 := hr
    have hr2 : Room 2 _ := hr.mono (by decide)
    have hr3 : Room 3 _ := hr.mono (by decide)
    refine ⟨_, (pss_cons (ps_set (i := 2) scRight.nd rfl (Or.inl rfl) (pe_call GLw hr2 (by rfl) gLw FLw.kp bLw .nil pass0 (pa_cons (pv 0) (pa_cons (pv 1) pa_nil))))
      (pss_cons (ps_for PassesOwn.never rfl (pi_range1 (by rfl) T.range (pa_cons pe_int pa_nil)) (pg_name (i := 3) scRight.nd rfl (Or.inl rfl)) (pss_cons (ps_set (i := 4) scRight.nd rfl (Or.inl rfl) (pe_call GW hr3 (by rfl) gW FW.kp bW .nil pass0 (pa_cons (pv 0) (pa_cons (pv 1) pa_nil))))
      (pss_cons (ps_if (pt_not (pt_val (pe_call GS hr4 (by rfl) gS FS.kp bS .nil pass0 (pa_cons (pv 4) (pa_cons (pv 2) pa_nil))))) (pss_one (ps_ret pe_bl)) pss_nil)
      (pss_one (ps_expr (pe_bm0 PySem.F.plainAttrs_list PySem.F.slot_list_clear PySem.F.type_list_clear mt_clear (pv 4)))))))
      (pss_one (ps_ret (pe_cmpR (op_eqD hr.units) (pe_lc (own := [("stem", 5), ("ring", 6)]) (g := gTup K 2 (gCons (gName 5) (gCons (gName 6) gNil))) rfl scRight.nd (pi_list (pv 2)) (blkOk_by (N := ["base", "fraction", "due", "time", "found", "stem", "ring"]) (sc := defScope sRight) (by decide +kernel)) (fun _ _ _ _ _ => (pg_tup (by rfl) (pgs_cons (pg_name (i := 5) scRight.nd rfl (Or.inl rfl)) (pgs_cons (pg_name (i := 6) scRight.nd rfl (Or.inl rfl)) pgs_nil)))) (fun _ _ _ _ _ => pts_one (pt_not (pt_val (pe_call GS hr4 (by rfl) gS FS.kp bS .nil pass0 (pa_cons (pe_call GF hr2 (by rfl) gF FF.kp bF .nil pass0 (pa_cons (pv 0) (pa_cons (pv 5) (pa_cons (pv 6) pa_nil)))) (pa_cons (pv 1) pa_nil)))))) (fun _ _ _ _ _ => pe_int)) (pe_lst pa_nil) (nomark _)))))), ?_⟩
    refine ⟨_, rfl, _, rfl, b, n, d, v, G, rfl, e, dv, fr, fun W hW q ws G1 H1 m1 hq gq nq dws => ?_⟩
    obtain ⟨hgood, hlen⟩ := wr_good hW fr g1
    have sG : Same (upd G1 q (.lst ws)) H1 := fun c o hc => by
      by_cases z : c = q
      · subst z; rw [upd_same] at hc; rw [← hc]; exact hq
      · rw [upd_ne z] at hc; exact m1.gh c o hc
    have gg1 : Same G1 (upd G1 q (.lst ws)) := Same.upd gq
    have ddue : Dq K (upd G1 q (.lst ws)) (.ref q) (.list (W.map pairD)) := .lst upd_same (dws.mono gg1)
    have dfr : Dq K (upd G1 q (.lst ws)) v (.tuple [.int n, .int d]) := (dv.mono m1.gg).mono gg1
    refine ⟨2, rfl, by decide, by decide, for_range (n := 2) (fun i σ H2 => ∃ y3 y4 : Option V, σ = [some (.int b), some v, some (.ref q), y3, y4, none, none] ∧ Same (upd G1 q (.lst ws)) H2 ∧ Same H H2) ⟨none, none, rfl, sG, m1.hh⟩ ?_ ?_⟩
    · rintro i σ H2 hi ⟨y3, y4, rfl, s2, sh2⟩
      refine ⟨_, rfl, _, rfl, b, n, d, v, _, rfl, s2, dfr, fr, fun W' hW' q2 ws2 G3 H3 m3 hq2 gq2 nq2 dws2 => ?_⟩
      obtain rfl := hW.uniq hW'
      refine ⟨_, rfl, _, rfl, .ref q2, .ref q, .list (W.map pairD), rfl, .lst hq2 (dws2.mono m3.gh), ddue.mono (s2.trans m3.hh), sh_W hgood hlen, fun H4 s4 => ?_⟩
      refine ⟨_, rfl, iteF ⟨_, rfl, .inl ⟨rfl, _, SqL.of (s4 _ _ hq2)⟩, q2, _, rfl, rfl, s4 _ _ hq2, ?_⟩⟩
      refine ⟨_, _, rfl, fun c o hc => ?_, fun c o hc => ?_⟩
      · rw [upd_ne (ne_of_none hc (m3.gg.free gq2))]
        exact s4 _ _ (m3.hh _ _ (s2 c o hc))
      · rw [upd_ne (ne_of_none hc (sh2.free nq2))]
        exact s4 _ _ (m3.hh _ _ (sh2 c o hc))
    · rintro σ H2 ⟨y3, y4, rfl, s2, sh2⟩
      have lw : ws.length ≤ 2 := by rw [dws.len, List.length_map]; exact hlen
      refine ⟨_, rfl, q, rfl, ⟨_, SqL.of (s2 _ _ upd_same)⟩, fun D nD => lc_it (walk_list (K := K) (a := q) (xs := ws)) (fun i H3 => H3 D = some (.lst []) ∧ Same H2 H3) ⟨upd_same, Same.upd nD⟩ (fun i H3 _ z => SqL.of (z.2 _ _ (s2 _ _ upd_same))) ?_ ?_⟩
      · rintro i x H3 H4 hi ⟨hD, s3⟩ ⟨rfl, hx⟩
        obtain ⟨dd, hdd, dx⟩ := dws.get hx
        rw [List.getElem?_map] at hdd
        obtain ⟨p, hp, rfl⟩ := Option.map_eq_some_iff.mp hdd
        have gp := hgood p (List.mem_of_getElem? hp)
        obtain ⟨pa, x1, y1, rfl, hpa, hx1, hy1⟩ := dq_two dx
        have sall : Same (upd G1 q (.lst ws)) H4 := s2.trans s3
        have sa : Same G1 H4 := gg1.trans sall
        refine ⟨pa, _, rfl, SqT.of (sa _ _ hpa), rfl, _, _, rfl, _, _, rfl, rfl, rfl, ?_⟩
        refine ⟨_, rfl, _, rfl, _, rfl, b, _, _, p.1, p.2, _, rfl, fr.b0, fr.b1, sall, (dq_mk hx1).mono gg1, (dq_mk hy1).mono gg1, gp.ne, gp.dS, gp.dR, gp.ln, fun v5 G5 H5 m5 d5 => ?_⟩
        rw [gp.fr] at d5
        refine ⟨_, rfl, v5, v, .tuple [.int n, .int d], rfl, d5.mono m5.gh, dfr.mono (m5.gg.trans m5.gh), sh_ints (l := [n, d]) (by simp) 2, fun H6 s6 => ?_⟩
        refine ⟨_, rfl, iteF ⟨s6 _ _ (m5.hh _ _ hD), (s3.trans m5.hh).trans s6⟩⟩
      · rintro H3 ⟨hD, s3⟩
        refine ⟨by decide, fun l nl => ?_⟩
        have hDl : D ≠ l := ne_of_none hD nl
        refine ⟨.list [], .list [], .lst (SqL.of (by rw [upd_ne hDl]; exact hD)) .nil, .lst (SqL.of upd_same) .nil, rfl, rfl, ?_⟩
        rw [eqv_nil]
        exact k _ ((sh2.trans s3).trans (Same.upd nl))
end
end My

namespace My
open PySem PySem.Spec PyProof.Rows L2
abbrev sLFraction : Stmt := topS 15
abbrev sLDigits : Stmt := topS 20
/-! ### when a rest comes again -/
theorem pigeon : ∀ (n : Nat) (l : List Nat), l.Nodup → (∀ x ∈ l, x < n) → l.length ≤ n
  | 0, l, _, h => by
    cases l with
    | nil => simp
    | cons x r => exact absurd (h x List.mem_cons_self) (Nat.not_lt_zero _)
  | n + 1, l, hn, h => by
    have ih := pigeon n (l.erase n) (hn.erase n) fun x hx => by
      obtain ⟨h1, h2⟩ := (List.Nodup.mem_erase_iff hn).mp hx
      have := h x h2
      omega
    by_cases hm : n ∈ l
    · rw [List.length_erase_of_mem hm] at ih
      omega
    · rw [List.erase_of_not_mem hm] at ih
      omega
theorem soon_small {b d n : Int} (d0 : 0 < d) (d1 : d ≤ 1000) (n0 : 0 ≤ n) (nd : n < d) : Soon b d n := by
  refine Classical.byContradiction fun hno => ?_
  have inj : ∀ i j, i < j → j ≤ 1000 → rs b d n i ≠ rs b d n j := fun i j h1 h2 z => hno ⟨i, j, h1, h2, z⟩
  have nod : ((List.range 1001).map fun i => (rs b d n i).toNat).Nodup := by
    refine List.pairwise_map.mpr (List.Pairwise.imp_of_mem (R := (· < ·)) (fun {i j} hi hj hlt z => ?_) List.pairwise_lt_range)
    have h1 := List.mem_range.mp hj
    have r1 := rs_rng (b := b) d0 n0 nd i
    have r2 := rs_rng (b := b) d0 n0 nd j
    exact inj i j hlt (by omega) (by omega)
  have := pigeon d.toNat _ nod fun x hx => by
    obtain ⟨i, _, rfl⟩ := List.mem_map.mp hx
    have r1 := rs_rng (b := b) d0 n0 nd i
    omega
  rw [List.length_map, List.length_range] at this
  omega
theorem rs_pow {b d n : Int} (n0 : 0 ≤ n) (nd : n < d) : ∀ i, rs b d n i = n * b ^ i % d
  | 0 => by simp only [rs, Int.pow_zero, Int.mul_one]; exact (Int.emod_eq_of_lt n0 nd).symm
  | i + 1 => by
    show rs b d n i * b % d = _
    rw [rs_pow n0 nd i, Int.pow_succ, ← Int.mul_assoc, Int.mul_emod, Int.emod_emod_of_dvd _ (Int.dvd_refl d), ← Int.mul_emod]
theorem soon_dvd {b d n : Int} {s r : Nat} (n0 : 0 ≤ n) (nd : n < d) (r0 : 1 ≤ r) (hs : s + r ≤ 1000) (h : d ∣ b ^ s * (b ^ r - 1)) : Soon b d n := by
  refine ⟨s, s + r, by omega, hs, ?_⟩
  rw [rs_pow n0 nd, rs_pow n0 nd]
  refine (Int.emod_eq_emod_iff_emod_sub_eq_zero.mpr ?_).symm
  have e : n * b ^ (s + r) - n * b ^ s = n * (b ^ s * (b ^ r - 1)) := by
    rw [Int.pow_add, Int.mul_sub (b ^ s), Int.mul_one, Int.mul_sub]
  rw [e]
  exact Int.emod_eq_zero_of_dvd (Int.dvd_trans h ⟨n, Int.mul_comm _ _⟩)
/-! ### lowest terms -/
structure Low (a b n d : Int) : Prop where
  n0 : 0 ≤ n
  nd : n ≤ d
  d0 : 0 < d
  gc : Nat.gcd n.natAbs d.natAbs = 1
  dv : d ∣ b
  db : d ≤ b
theorem low_red {a b : Int} (a0 : 0 ≤ a) (ab : a ≤ b) (b0 : 0 < b) : Low a b (a / gN a b) (b / gN a b) := by
  obtain ⟨A, rfl⟩ : ∃ N : Nat, a = (N : Int) := ⟨a.toNat, by omega⟩
  obtain ⟨B, rfl⟩ : ∃ N : Nat, b = (N : Int) := ⟨b.toNat, by omega⟩
  have eg : gN (A : Int) (B : Int) = ((Nat.gcd B A : Nat) : Int) := rfl
  have gp : 0 < Nat.gcd B A := Nat.gcd_pos_of_pos_left _ (by omega)
  have dB := Nat.gcd_dvd_left B A
  rw [eg, ← Int.natCast_ediv, ← Int.natCast_ediv]
  have hb : 0 < B / Nat.gcd B A := Nat.div_pos (Nat.le_of_dvd (by omega) dB) gp
  refine ⟨Int.natCast_nonneg _, Int.ofNat_le.mpr (Nat.div_le_div_right (by omega)), Int.natCast_pos.mpr hb, ?_, ?_, Int.ofNat_le.mpr (Nat.div_le_self _ _)⟩
  · rw [Nat.gcd_comm]
    exact Nat.coprime_div_gcd_div_gcd gp
  · exact Int.natCast_dvd_natCast.mpr (Nat.div_dvd_of_dvd dB)
theorem tp_le {b : Int} (b0 : 2 ≤ b) {S R : List Int} (hS : Digs b S) (hR : Digs b R) : tp b S R ≤ bt b S R := by
  unfold tp bt
  have h1 := (nb_rng (by omega) S hS).2
  have h2 := (nb_rng (by omega) R hR).2
  have h3 := pow_ge_1 b0 R.length
  have h4 : (nb b S + 1) * (b ^ R.length - 1) ≤ b ^ S.length * (b ^ R.length - 1) := Int.mul_le_mul_of_nonneg_right (by omega) (by omega)
  rw [Int.add_mul, Int.one_mul] at h4
  omega
/-- the pen moves, what stands grows -/
theorem fra_small {b n d : Int} (b0 : 2 ≤ b) (b1 : b ≤ 10) (n0 : 0 ≤ n) (nd : n ≤ d) (d0 : 0 < d) (d1 : d ≤ 1000) (g : Nat.gcd n.natAbs d.natAbs = 1) : Fra b n d :=
  ⟨b0, b1, n0, nd, d0, Nat.lt_of_le_of_lt (show d.natAbs ≤ 1000 by omega) (by decide), fun z => soon_small d0 d1 n0 (by omega), g⟩
theorem fra_dvd {b n d : Int} {s r : Nat} (b0 : 2 ≤ b) (b1 : b ≤ 10) (n0 : 0 ≤ n) (nd : n ≤ d) (d0 : 0 < d) (r0 : 1 ≤ r) (hs : s + r ≤ 1000) (h : d ∣ b ^ s * (b ^ r - 1)) (g : Nat.gcd n.natAbs d.natAbs = 1) : Fra b n d := by
  refine ⟨b0, b1, n0, nd, d0, ?_, fun z => soon_dvd n0 (by omega) r0 (by omega) h, g⟩
  have h1 := pow_ge_1 b0 s
  have h2 := pow_ge_2 b0 (k := r) r0
  have hp : 0 < b ^ s * (b ^ r - 1) := Int.mul_pos (by omega) (by omega)
  have hle := Int.le_of_dvd hp h
  have hlt := wide_lt (pow_lt_2 b0 b1 s) (pow_sub_lt b0 b1 r)
  refine Nat.lt_of_le_of_lt (show d.natAbs ≤ (b ^ s * (b ^ r - 1)).natAbs by omega) (Nat.lt_of_lt_of_le hlt (Nat.pow_le_pow_right (by decide) (by omega)))
theorem fra_worth {b : Int} {S R : List Int} (b0 : 2 ≤ b) (b1 : b ≤ 10) (hS : Digs b S) (hR : Digs b R) (hn : R ≠ []) (hl : S.length + R.length ≤ 1000) :
    Fra b (tp b S R / gN (tp b S R) (bt b S R)) (bt b S R / gN (tp b S R) (bt b S R)) ∧ Nat.gcd (tp b S R / gN (tp b S R) (bt b S R)).natAbs (bt b S R / gN (tp b S R) (bt b S R)).natAbs = 1 := by
  have lw := low_red (tp_nn b0 hS hR) (tp_le b0 hS hR) (bt_pos b0 S hn)
  exact ⟨fra_dvd b0 b1 lw.n0 lw.nd lw.d0 (s := S.length) (r := R.length) (by cases R with | nil => exact absurd rfl hn | cons _ _ => simp) hl lw.dv lw.gc, lw.gc⟩
structure Mv (p : Addr) (G H G' H' : Hp) : Prop where
  gg : Same G G'
  gh : Same G' H'
  bt : But p H H'
  old : ∀ b, b ≠ p → H b ≠ none → G' b = G b
  gp : G' p = none
theorem Mv.trans {p : Addr} {G H G1 H1 G2 H2 : Hp} (a : Mv p G H G1 H1) (b : Mv p G1 H1 G2 H2) : Mv p G H G2 H2 :=
  ⟨a.gg.trans b.gg, b.gh, a.bt.trans b.bt, fun c n h => by
    have h1 : H1 c ≠ none := by
      cases q : H c with
      | none => exact absurd q h
      | some o => rw [a.bt c o n q]; exact fun z => nomatch z
    rw [b.old c n h1, a.old c n h], b.gp⟩
theorem Mv.nw {p : Addr} {G H G1 H1 : Hp} (m : Nw G H G1 H1) (h : H p ≠ none) (n : G p = none) : Mv p G H G1 H1 := ⟨m.gg, m.gh, But.of m.hh, fun b _ => m.old b, by rw [m.old p h]; exact n⟩
theorem Mv.take {p : Addr} {G H H1 : Hp} (e : Same G H) (n : G p = none) (b : But p H H1) : Mv p G H G H1 := ⟨Same.refl G, same_but e n b, b, fun _ _ _ => rfl, n⟩
theorem Mv.more {p : Addr} {G H G1 H1 H2 : Hp} (m : Mv p G H G1 H1) (s : Same H1 H2) : Mv p G H G1 H2 := ⟨m.gg, m.gh.trans s, m.bt.trans (But.of s), m.old, m.gp⟩
def spLFraction (K : PySem.W.Frag) : Sp := fun vs H Q _ => ∃ (p pc : Addr) (b M : Int) (t : Nat) (G : Hp), vs = [.ref p, .int b, .int M] ∧ 1 ≤ M ∧ M ≤ 1000 ∧ 2 ≤ b ∧ b ≤ 10 ∧ PenC H p pc t ∧ t + 10 < 2 ^ 29 ∧ Same G H ∧ G p = none ∧
  ∀ (v : V) (n d : Int) (G' H' : Hp), Mv p G H G' H' → PenC H' p pc (t + 4) → Dq K G' v (.tuple [.int n, .int d]) → 0 ≤ n → n ≤ d → 0 < d → d ≤ M → Nat.gcd n.natAbs d.natAbs = 1 → Q v H'
def spLDigits (K : PySem.W.Frag) : Sp := fun vs H Q _ => ∃ (p pc : Addr) (b : Int) (lo hi : Nat) (t : Nat) (G : Hp), vs = [.ref p, .int b, .int lo, .int hi] ∧ 2 ≤ b ∧ b ≤ 10 ∧ lo ≤ hi ∧ hi ≤ 100 ∧ PenC H p pc t ∧ t + 1000 < 2 ^ 29 ∧ Same G H ∧ G p = none ∧
  ∀ (v : V) (l : List Int) (G' H' : Hp), Mv p G H G' H' → PenC H' p pc (t + 1 + hi) → Dq K G' v (iTup l) → Digs b l → lo ≤ l.length → l.length ≤ hi → Q v H'
structure TxF (mg : Str → Option Value) : Prop where
  max : mg "max" = none
  int : mg "int" = none
  range : mg "range" = none
  tuple : mg "tuple" = none
section
variable {P : Program} {w : World} {K : PySem.W.Frag} {mg : Str → Option Value} {base : Heap}
theorem scLFraction : FnScope ["pen", "base", "most", "way", "whole"] ["pen", "base", "most"] (defScope sLFraction) := ⟨rfl, rfl, rfl, by decide +kernel, rfl, by decide +kernel, by decide +kernel⟩
theorem ok_lfraction {f fT fR : Addr} {fd fdT fdR : FuncData} (F : Fun K "_law_fraction" "_law_fraction" sLFraction f fd) (T : TxF mg)
    (FT : Fun K "_law_take" "_law_take" sTake fT fdT) (GT : FnOk P w K mg base CX0 2 fT fdT ["pen", "many"] spTakeC) (bT : Binds K fdT ["pen", "many"] []) (gT : mg "_law_take" = some (.ref fT))
    (FR : Fun K "_law_reduced" "_law_reduced" sRed fR fdR) (GR : FnOk P w K mg base CX0 1 fR fdR ["top", "whole"] spRed) (bR : Binds K fdR ["top", "whole"] []) (gR : mg "_law_reduced" = some (.ref fR)) :
    FnOk P w K mg base CX0 3 f fd ["pen", "base", "most"] (spLFraction K) := by
  refine F.ok scLFraction (fun vs H Q E h => ?_) (fun cdv A outer s H vs Q E hr h => ?_)
  · obtain ⟨p, pc, b, M, t, G, rfl, _⟩ := h
    rfl
  · obtain ⟨p, pc, b, M, t, G, rfl, M0, M1, b0, b1, PA, ht, e, np, k⟩ := h
    have hr2 := hr
    have hr1 : Room 1 _ := hr.mono (by decide)
    refine ⟨_, (pss_cons (ps_set (i := 3) scLFraction.nd rfl (Or.inl rfl) (pe_call GT hr2 (by rfl) gT FT.kp bT .nil pass0 (pa_cons (pv 0) (pa_cons pe_int pa_nil))))
      (pss_cons (ps_set (i := 4) scLFraction.nd rfl (Or.inl rfl) (pe_op op_add pe_int (pe_call GT hr2 (by rfl) gT FT.kp bT .nil pass0 (pa_cons (pv 0) (pa_cons (pv 2) pa_nil)))))
      (C8.pss_cut (ps_if (pt_cmpR op_gt (pv 3) pe_int (nomark _)) (pss_cons (ps_set (i := 4) scLFraction.nd rfl (Or.inl rfl) (pe_ix ix_list (pe_lst (pa_cons pe_int (pa_cons (pv 1) (pa_cons (pe_op op_mul (pv 1) (pv 1)) (pa_cons (pe_op op_mul (pe_op op_mul (pv 1) (pv 1)) (pv 1)) pa_nil))))) (pe_call GT hr2 (by rfl) gT FT.kp bT .nil pass0 (pa_cons (pv 0) (pa_cons pe_int pa_nil))) (fun _ _ => rfl)))
      (pss_cons (ps_while PassesOwn.never (pt_cmpR op_gt (pv 4) (pv 2) (nomark _)) (pss_one (ps_set (i := 4) scLFraction.nd rfl (Or.inl rfl) (pe_op op_fdivW (pv 4) (pv 1)))))
      (pss_one (ps_set (i := 4) scLFraction.nd rfl (Or.inl rfl) (pe_callB (call_max2 rfl) (by rfl) T.max boot_max (pa_cons pe_int (pa_cons (pe_op op_sub (pv 4) (pe_callTy call_int1 (by rfl) T.int boot_int (pa_cons (pe_cmpR op_eq (pv 3) pe_int (nomark _)) pa_nil))) pa_nil))))))) pss_nil)
      (pss_one (ps_ret (pe_call GR hr1 (by rfl) gR FR.kp bR .nil pass0 (pa_cons (pe_call GT hr2 (by rfl) gT FT.kp bT .nil pass0 (pa_cons (pv 0) (pa_cons (pe_op op_add (pv 4) pe_int) pa_nil))) (pa_cons (pv 4) pa_nil)))))))), ?_⟩
    refine ⟨_, rfl, p, pc, 3, t, rfl, by decide, by decide, PA, by omega, fun way H1 w0 w1 b1' P1 => ?_⟩
    refine ⟨_, rfl, _, rfl, p, pc, M, _, rfl, by omega, Nat.lt_of_le_of_lt (show M.natAbs ≤ 1000 by omega) (by decide), P1, by omega, fun u H2 u0 u1 b2' P2 => ?_⟩
    refine ⟨_, _, rfl, rfl, ?_⟩
    have bt2 := b1'.trans b2'
    refine ⟨fun σ H3 => ∃ z : Int, σ = [some (.ref p), some (.int b), some (.int M), some (.int way), some (.int z)] ∧ 1 ≤ z ∧ z ≤ M ∧ But p H H3 ∧ PenC H3 p pc (t + 3), ?_, ?_⟩
    · refine ⟨_, rfl, _, _, rfl, rfl, _, rfl, ite2 (fun _ => ?_) (fun _ => ⟨1 + u, rfl, by omega, by omega, bt2, P2.same (Same.refl _) (by omega)⟩)⟩
      refine ⟨_, rfl, _, rfl, _, rfl, _, _, rfl, rfl, small_base b0 b1 _, _, rfl, _, rfl, _, _, rfl, rfl, small_base b0 b1 _, _, rfl, _, _, rfl, rfl, small_base b0 b1 _, (by show 4 ≤ sizeLine; decide), fun l nl => ?_⟩
      refine ⟨_, rfl, p, pc, 4, _, rfl, by decide, by decide, P2.same (Same.upd nl) (Nat.le_refl _), by omega, fun m H3 m0 m1 b3' P3 => ?_⟩
      have lp : l ≠ p := pen_not P2.any nl
      obtain ⟨z, j, hz, hzj⟩ : ∃ (z : Int) (j : Nat), atI [V.int 1, V.int b, V.int (b * b), V.int (b * b * b)] m = some (.int z) ∧ z = b ^ j := by
        have h : m = 0 ∨ m = 1 ∨ m = 2 ∨ m = 3 := by omega
        rcases h with rfl | rfl | rfl | rfl
        · exact ⟨_, 0, rfl, by rw [Int.pow_zero]⟩
        · exact ⟨_, 1, rfl, by rw [Int.pow_succ, Int.pow_zero, Int.one_mul]⟩
        · exact ⟨_, 2, rfl, by rw [Int.pow_succ, Int.pow_succ, Int.pow_zero, Int.one_mul]⟩
        · exact ⟨_, 3, rfl, by rw [Int.pow_succ, Int.pow_succ, Int.pow_succ, Int.pow_zero, Int.one_mul]⟩
      refine ⟨l, _, m, _, rfl, rfl, SqL.of (b3' _ _ lp upd_same), hz, ?_⟩
      subst hzj
      refine while_by (fun σ H4 => ∃ j : Nat, σ = [some (.ref p), some (.int b), some (.int M), some (.int way), some (.int (b ^ j))] ∧ H4 = H3) (fun σ _ => match σ with | [_, _, _, _, some (.int y)] => y.natAbs | _ => 0) ⟨j, rfl, rfl⟩ ?_ (fun σ H4 Q1 Q2 m h => let ⟨v, e1, v2, e2, i, j, e3, e4, u, e5, h2⟩ := h; ⟨v, e1, v2, e2, i, j, e3, e4, u, e5, m _ _ h2⟩)
      rintro σ H4 ⟨j, rfl, rfl⟩
      have p1 := pow_ge_1 b0 j
      refine ⟨_, rfl, _, rfl, _, _, rfl, rfl, _, rfl, ?_⟩
      by_cases hgt : M < b ^ j
      · refine ifT (decide_eq_true hgt) ?_
        obtain ⟨i, rfl⟩ : ∃ i, j = i + 1 := ⟨j - 1, by cases j with | zero => rw [Int.pow_zero] at hgt; omega | succ i => rfl⟩
        have p2 := pow_ge_1 b0 i
        have ed : b ^ (i + 1) / b = b ^ i := by rw [Int.pow_succ]; exact Int.mul_ediv_cancel _ (by omega)
        refine ⟨_, rfl, _, rfl, _, _, rfl, rfl, wide_div (b := 10) (by omega) (show b.natAbs < 2 ^ 10 by omega) (by decide) (by decide), ?_⟩
        refine ⟨⟨i, by rw [← ed]; rfl, rfl⟩, ?_⟩
        show (b ^ (i + 1) / b).natAbs < (b ^ (i + 1)).natAbs
        rw [ed, Int.pow_succ]
        have : b ^ i * 2 ≤ b ^ i * b := Int.mul_le_mul_of_nonneg_left b0 (by omega)
        omega
      refine ifF (decide_eq_false hgt) ?_
      generalize b ^ j = z at p1 hgt
      refine ⟨_, rfl, _, rfl, rfl, .inr ⟨_, rfl, _, _, rfl, rfl, _, _, rfl, ?_⟩⟩
      have bt4 := (bt2.trans (But.of (Same.upd nl))).trans b3'
      refine ⟨_, rfl, ?_, ?_, bt4, P3.same (Same.refl _) (by omega)⟩
      · (repeat' split) <;> omega
      · (repeat' split) <;> omega
    · rintro σ H3 ⟨z, rfl, z0, z1, bt3, P3⟩
      have g3 : Same G H3 := same_but e np bt3
      refine ⟨_, rfl, _, rfl, _, _, rfl, rfl, p, pc, z + 1, _, rfl, by omega, Nat.lt_of_le_of_lt (show (z + 1).natAbs ≤ 1001 by omega) (by decide), P3, by omega, fun m H4 m0 m1 b4' P4 => ?_⟩
      have g4 : Same G H4 := same_but g3 np b4'
      refine ⟨_, rfl, m, z, rfl, m0, by omega, Nat.lt_of_le_of_lt (show z.natAbs ≤ 1001 by omega) (by decide), fun q nq => ?_⟩
      have lw := low_red m0 (show m ≤ z by omega) (show 0 < z by omega)
      have nw := Nw.mk1 g4 nq (.tup [.int (m / gN m z), .int (z / gN m z)])
      refine k (.ref q) _ _ _ _ ((Mv.take e np (bt3.trans b4')).trans (Mv.nw nw P4.any.some np)) (P4.same nw.hh (by omega)) (.tup upd_same (.cons (.int _) (.cons (.int _) .nil))) lw.n0 lw.nd lw.d0 (by have := lw.db; omega) lw.gc
theorem scLDigits : FnScope ["pen", "base", "least_many", "most", "k"] ["pen", "base", "least_many", "most"] (defScope sLDigits) := ⟨rfl, rfl, rfl, by decide +kernel, rfl, by decide +kernel, by decide +kernel⟩
theorem ok_ldigits {f fT : Addr} {fd fdT : FuncData} (F : Fun K "_law_digits" "_law_digits" sLDigits f fd) (T : TxF mg)
    (FT : Fun K "_law_take" "_law_take" sTake fT fdT) (GT : FnOk P w K mg base CX0 2 fT fdT ["pen", "many"] spTakeC) (bT : Binds K fdT ["pen", "many"] []) (gT : mg "_law_take" = some (.ref fT)) :
    FnOk P w K mg base CX0 3 f fd ["pen", "base", "least_many", "most"] (spLDigits K) := by
  refine F.ok scLDigits (fun vs H Q E h => ?_) (fun cdv A outer s H vs Q E hr h => ?_)
  · obtain ⟨p, pc, b, lo, hi, t, G, rfl, _⟩ := h
    rfl
  · obtain ⟨p, pc, b, lo, hi, t, G, rfl, b0, b1, lh, hh, PC, ht, e, np, k⟩ := h
    have hr2 := hr
    refine ⟨_, (pss_one (ps_ret (pe_callTy call_tuple_of (by rfl) T.tuple boot_tuple (pa_cons (pe_lc (own := [("k", 4)]) (g := gName 4) (tt := tYes) rfl scLDigits.nd (pi_range1 (by rfl) T.range (pa_cons (pe_op op_add (pv 2) ((pe_call GT hr2 (by rfl) gT FT.kp bT .nil pass0 (pa_cons (pv 0) (pa_cons (pe_op op_add (pe_op op_sub (pv 3) (pv 2)) pe_int) pa_nil))))) pa_nil)) (blkOk_by (N := ["pen", "base", "least_many", "most", "k"]) (sc := defScope sLDigits) (by decide +kernel)) (fun _ _ _ _ _ => pg_name (i := 4) scLDigits.nd rfl (Or.inl rfl)) (fun _ _ _ _ _ => pts_nil) (fun _ _ _ _ _ => (pe_call GT hr2 (by rfl) gT FT.kp bT .nil pass0 (pa_cons (pv 0) (pa_cons (pv 1) pa_nil))))) pa_nil)))), ?_⟩
    refine ⟨_, rfl, _, rfl, _, rfl, _, rfl, _, _, rfl, rfl, _, _, rfl, rfl, p, pc, _, t, rfl, by omega, Nat.lt_of_le_of_lt (show ((hi : Int) - lo + 1).natAbs ≤ 1001 by omega) (by decide), PC, by omega, fun m H1 m0 m1 b1' P1 => ?_⟩
    obtain ⟨c, hc⟩ : ∃ c : Nat, (lo : Int) + m = (c : Int) := ⟨(lo + m).toNat, by omega⟩
    refine ⟨_, _, rfl, rfl, _, rfl, by omega, by omega, fun D nD => ?_⟩
    have e1 : ((lo : Int) + m).toNat = c := by omega
    have Dp : D ≠ p := pen_not P1.any nD
    have Dc : D ≠ pc := fun z => P1.at_c (by rw [← z]; exact nD)
    rw [e1]
    refine lc_it (walk_range (lo := 0) (n := c)) (fun i H2 => PenC H2 p pc (t + 1 + i) ∧ But p H1 H2 ∧ i ≤ c ∧ ∃ l : List Int, l.length = i ∧ Digs b l ∧ H2 D = some (.lst (l.map V.int))) ⟨P1.same (Same.upd nD) (by omega), But.of (Same.upd nD), Nat.zero_le _, [], rfl, (fun x hx => nomatch hx), upd_same⟩ (fun _ _ _ _ => trivial) ?_ ?_
    · rintro i x H2 H3 hi' ⟨P2, b2', _, l, hl, hd, hD⟩ ⟨rfl, rfl⟩
      refine ⟨rfl, ?_⟩
      refine ⟨_, rfl, _, rfl, p, pc, b, _, rfl, by omega, Nat.lt_of_le_of_lt (show b.natAbs ≤ 1001 by omega) (by decide), P2, by omega, fun z H4 z0 z1 b4' P4 => ?_⟩
      have hD4 := b4' _ _ Dp hD
      refine ⟨_, hD4, by rw [List.length_map, sizeLine_eq]; omega, P4.upd Dp Dc (by omega) _, ?_, by omega, l ++ [z], by rw [List.length_append, hl]; rfl, ?_, by rw [upd_same, List.map_append]; rfl⟩
      · intro c' o hn hc'
        rw [upd_ne (ne_of_none hc' nD)]
        exact b4' c' o hn (b2' c' o hn hc')
      · intro x hx
        rcases List.mem_append.mp hx with hx | hx
        · exact hd x hx
        · rw [List.mem_singleton.mp hx]; exact ⟨z0, z1⟩
    · rintro H2 ⟨P2, b2', _, l, hl, hd, hD⟩
      have g2 : Same G H2 := same_but (same_but e np b1') np b2'
      refine ⟨D, _, rfl, .inl ⟨SqL.of hD, fun q nq => ?_⟩⟩
      have nw := Nw.mk1 g2 nq (.tup (l.map V.int))
      exact k (.ref q) l _ _ ((Mv.take e np (b1'.trans b2')).trans (Mv.nw nw P2.any.some np)) (P2.same nw.hh (by omega)) (dq_mk upd_same) hd (by omega) (by omega)
end
end My

namespace My
open PySem PySem.Spec PyProof.Rows L2
abbrev sLaw : Stmt := topS 22
def spLaw (K : PySem.W.Frag) : Sp := fun vs H Q _ => ∃ (a : Addr) (ns : List Int), vs = [.ref a] ∧ SqL K H a (ns.map V.int) ∧ ns.length ≤ 63 ∧ ∀ H', Q (.bl true) H'
structure TxL (mg : Str → Option Value) : Prop where
  range : mg "range" = none
  tuple : mg "tuple" = none
  len : mg "len" = none
def FrV (K : PySem.W.Frag) (G : Hp) (b : Int) (v : V) : Prop := ∃ n d : Int, Dq K G v (.tuple [.int n, .int d]) ∧ Fra b n d ∧ Nat.gcd n.natAbs d.natAbs = 1
theorem FrV.mono {K : PySem.W.Frag} {G G' : Hp} {b : Int} {v : V} (e : Same G G') (h : FrV K G b v) : FrV K G' b v := let ⟨n, d, a, r⟩ := h; ⟨n, d, a.mono e, r⟩
theorem digs_rep {b : Int} {l : List Int} (h : Digs b l) (k : Nat) : Digs b (List.replicate k l).flatten := fun x hx => by
  obtain ⟨m, hm, hx⟩ := List.mem_flatten.mp hx
  rw [(List.mem_replicate.mp hm).2] at hx
  exact h x hx
theorem inV_false (n : Nat) : inV (.bl false) (List.replicate n (.bl true)) = false := inV_true n
section
variable {P : Program} {w : World} {K : PySem.W.Frag} {mg : Str → Option Value} {base : Heap}
theorem scLaw : FnScope ["script", "pen", "turn", "base", "k", "some", "ring", "stem", "due", "far", "fraction"] ["script"] (defScope sLaw) := ⟨rfl, rfl, rfl, by decide +kernel, rfl, by decide +kernel, by decide +kernel⟩
/-- all of a list of fractions are told right -/
theorem right_all {b : Int} {sa : Addr} {xs : List V} {G H : Hp} {x0 x1 x2 x4 x5 x6 x7 x8 x9 x10 : Option V} (e : Same G H) (hs : H sa = some (.lst xs)) (hf : ∀ x ∈ xs, FrV K G b x) (hl : xs.length ≤ 1000) (D : Addr) (nD : H D = none) (Qd : Hp → Prop)
    (hQ : ∀ H', Same H H' → H' D = some (.lst (List.replicate xs.length (.bl true))) → Qd H') :
    ∃ W : Nat → Nat → Hp → Prop, (∃ m, W 0 m (upd H D (.lst []))) ∧ ∀ i m H3, W i m H3 → ((Itl K sa).stop i H3 ∧ Qd H3) ∨ ((Itl K sa).go i H3 ∧ ∃ Nx : Hp → Prop, (∀ H', Nx H' → ∃ m', m' < m ∧ W (i + 1) m' H') ∧
      ∀ x H', (Itl K sa).yld i H3 x H' → gName 10 x (wipe [x0, x1, x2, some (.int b), x4, x5, x6, x7, x8, x9, x10] [10]) H' fun σ2 H2 => wipe σ2 [10] = wipe [x0, x1, x2, some (.int b), x4, x5, x6, x7, x8, x9, x10] [10] ∧ tYes σ2 H2 fun c H3 =>
        if c = true then (tCall (spRight K) [] E0 (tCons (tVar 3) (tCons (tVar 10) tNil))) σ2 H3 fun y H4 => ∃ acc, H4 D = some (.lst acc) ∧ acc.length < sizeLine ∧ Nx (upd H4 D (.lst (acc ++ [y]))) else Nx H3) := by
  refine lc_it walk_list (fun i H2 => i ≤ xs.length ∧ Same H H2 ∧ H2 D = some (.lst (List.replicate i (.bl true)))) ⟨Nat.zero_le _, Same.upd nD, upd_same⟩ (fun i H2 _ q => SqL.of (q.2.1 _ _ hs)) ?_ (fun H2 q => hQ H2 q.2.1 q.2.2)
  rintro i v H2 H3 hi ⟨_, s2, hD⟩ ⟨rfl, ex⟩
  obtain ⟨n, d, dv, fr, g1⟩ := hf v (List.mem_of_getElem? ex)
  refine ⟨rfl, ?_⟩
  unfold tYes
  dsimp only
  rw [if_pos rfl]
  refine ⟨_, rfl, _, rfl, b, n, d, v, G, rfl, e.trans s2, dv, fr, g1, fun H4 s4 => ?_⟩
  refine ⟨_, s4 _ _ hD, by rw [List.length_replicate, sizeLine_eq]; omega, hi, fun c o hc => ?_, by rw [upd_same, rep_snoc]⟩
  rw [upd_ne (ne_of_none hc nD)]
  exact s4 c o (s2 c o hc)
theorem ok_law {f fO fT fLf fLd fWo fS fF fRt fR : Addr} {fd fdO fdT fdLf fdLd fdWo fdS fdF fdRt fdR : FuncData} (F : Fun K "law" "law" sLaw f fd) (T : TxL mg)
    (FO : Fun K "_law_open" "_law_open" sOpen fO fdO) (GO : FnOk P w K mg base CX0 1 fO fdO ["script"] (spOpen K)) (bO : Binds K fdO ["script"] []) (gO : mg "_law_open" = some (.ref fO))
    (FT : Fun K "_law_take" "_law_take" sTake fT fdT) (GT : FnOk P w K mg base CX0 2 fT fdT ["pen", "many"] spTakeC) (bT : Binds K fdT ["pen", "many"] []) (gT : mg "_law_take" = some (.ref fT))
    (FLf : Fun K "_law_fraction" "_law_fraction" sLFraction fLf fdLf) (GLf : FnOk P w K mg base CX0 3 fLf fdLf ["pen", "base", "most"] (spLFraction K)) (bLf : Binds K fdLf ["pen", "base", "most"] []) (gLf : mg "_law_fraction" = some (.ref fLf))
    (FLd : Fun K "_law_digits" "_law_digits" sLDigits fLd fdLd) (GLd : FnOk P w K mg base CX0 3 fLd fdLd ["pen", "base", "least_many", "most"] (spLDigits K)) (bLd : Binds K fdLd ["pen", "base", "least_many", "most"] []) (gLd : mg "_law_digits" = some (.ref fLd))
    (FWo : Fun K "_law_worth" "_law_worth" sWorth fWo fdWo) (GWo : FnOk P w K mg base CX0 2 fWo fdWo ["base", "stem", "ring"] (spWorth K)) (bWo : Binds K fdWo ["base", "stem", "ring"] []) (gWo : mg "_law_worth" = some (.ref fWo))
    (FS : Fun K "_law_same" "_law_same" sSame fS fdS) (GS : FnOk P w K mg base CX0 4 fS fdS ["found", "due"] (spSame K 4)) (bS : Binds K fdS ["found", "due"] []) (gS : mg "_law_same" = some (.ref fS))
    (FF : Fun K "fraction_of" "fraction_of" sFractionOf fF fdF) (GF : FnOk P w K mg base CX0 2 fF fdF ["base", "stem", "ring"] (spFractionOf K)) (bF : Binds K fdF ["base", "stem", "ring"] []) (gF : mg "fraction_of" = some (.ref fF))
    (FRt : Fun K "_law_right" "_law_right" sRight fRt fdRt) (GRt : FnOk P w K mg base CX0 5 fRt fdRt ["base", "fraction"] (spRight K)) (bRt : Binds K fdRt ["base", "fraction"] []) (gRt : mg "_law_right" = some (.ref fRt))
    (FR : Fun K "_law_reduced" "_law_reduced" sRed fR fdR) (GR : FnOk P w K mg base CX0 1 fR fdR ["top", "whole"] spRed) (bR : Binds K fdR ["top", "whole"] []) (gR : mg "_law_reduced" = some (.ref fR)) :
    AtTop P w K mg base f fd ["script"] (spLaw K) := by
  refine top_ok (k := 5) F scLaw (fun vs H Q E h => ?_) ⟨rfl, by decide, by decide⟩ (fun cdv out s H vs Q E hr h => ?_)
  · obtain ⟨a, ns, rfl, _⟩ := h
    rfl
  · obtain ⟨a, ns, rfl, hS, hlen, k⟩ := h
    have hr1 : Room 1 _ := hr.mono (by decide)
    have hr2 : Room 2 _ := hr.mono (by decide)
    have hr3 : Room 3 _ := hr.mono (by decide)
    have hr4 : Room 4 _ := hr.mono (by decide)
    refine ⟨_, (pss_cons (ps_set (i := 1) scLaw.nd rfl (Or.inr rfl) (pe_call GO hr1 (by rfl) gO FO.kp bO .nil pass0 (pa_cons (pv 0) pa_nil)))
      (pss_cons (ps_for PassesOwn.never rfl (pi_range1 (by rfl) T.range (pa_cons pe_int pa_nil)) (pg_name (i := 2) scLaw.nd rfl (Or.inl rfl)) (pss_cons (ps_set (i := 3) scLaw.nd rfl (Or.inr rfl) (pe_op op_add pe_int (pe_call GT hr2 (by rfl) gT FT.kp bT .nil pass0 (pa_cons (pv 1) (pa_cons pe_int pa_nil)))))
      (pss_cons (ps_set (i := 5) scLaw.nd rfl (Or.inl rfl) (pe_op op_cat (pe_lst (das_cons (dc_tup (das_cons dc_int (das_cons dc_int das_nil)) (by show 2 ≤ sizeLine; decide)) (das_cons (dc_tup (das_cons dc_int (das_cons dc_int das_nil)) (by show 2 ≤ sizeLine; decide)) das_nil))) (pe_lc (own := [("k", 4)]) (g := gName 4) (tt := tYes) rfl scLaw.nd (pi_range1 (by rfl) T.range (pa_cons pe_int pa_nil)) (blkOk_by (N := ["script", "pen", "turn", "base", "k", "some", "ring", "stem", "due", "far", "fraction"]) (sc := defScope sLaw) (by decide +kernel)) (fun _ _ _ _ _ => pg_name (i := 4) scLaw.nd rfl (Or.inl rfl)) (fun _ _ _ _ _ => pts_nil) (fun _ _ _ _ _ => (pe_call GLf hr3 (by rfl) gLf FLf.kp bLf .nil pass0 (pa_cons (pv 1) (pa_cons (pv 3) (pa_cons pe_int pa_nil))))))))
      (pss_cons (ps_if (pt_cmpR op_in_seq pe_bl (pe_lc (own := [("fraction", 10)]) (g := gName 10) (tt := tYes) rfl scLaw.nd (pi_list (pv 5)) (blkOk_by (N := ["script", "pen", "turn", "base", "k", "some", "ring", "stem", "due", "far", "fraction"]) (sc := defScope sLaw) (by decide +kernel)) (fun _ _ _ _ _ => pg_name (i := 10) scLaw.nd rfl (Or.inl rfl)) (fun _ _ _ _ _ => pts_nil) (fun _ _ _ _ _ => (pe_call GRt hr (by rfl) gRt FRt.kp bRt .nil pass0 (pa_cons (pv 3) (pa_cons (pv 10) pa_nil))))) (by rfl)) (pss_one (ps_ret pe_bl)) pss_nil)
      (pss_one (ps_for PassesOwn.never rfl (pi_range1 (by rfl) T.range (pa_cons pe_int pa_nil)) (pg_name (i := 4) scLaw.nd rfl (Or.inl rfl)) (pss_cons (ps_set (i := 6) scLaw.nd rfl (Or.inl rfl) (pe_op op_mulG (pe_call GLd hr3 (by rfl) gLd FLd.kp bLd .nil pass0 (pa_cons (pv 1) (pa_cons (pv 3) (pa_cons pe_int (pa_cons pe_int pa_nil))))) (pe_op op_add pe_int (pe_call GT hr2 (by rfl) gT FT.kp bT .nil pass0 (pa_cons (pv 1) (pa_cons pe_int pa_nil))))))
      (pss_cons (ps_set (i := 7) scLaw.nd rfl (Or.inl rfl) (pe_op op_catG (pe_call GLd hr3 (by rfl) gLd FLd.kp bLd .nil pass0 (pa_cons (pv 1) (pa_cons (pv 3) (pa_cons pe_int (pa_cons pe_int pa_nil))))) (pe_slice sl_tupG (pv 6) (po_some (pe_op op_sub (pe_callB call_len_seq (by rfl) T.len PySem.boot_len (pa_cons (pv 6) pa_nil)) (pe_call GT hr2 (by rfl) gT FT.kp bT .nil pass0 (pa_cons (pv 1) (pa_cons (pe_op op_add (pe_callB call_len_seq (by rfl) T.len PySem.boot_len (pa_cons (pv 6) pa_nil)) pe_int) pa_nil))))) po_none)))
      (pss_cons (ps_set (i := 8) scLaw.nd rfl (Or.inl rfl) (pe_call GWo hr2 (by rfl) gWo FWo.kp bWo .nil pass0 (pa_cons (pv 3) (pa_cons (pv 7) (pa_cons (pv 6) pa_nil)))))
      (pss_one (ps_if (PW.pt (pw_or (pt_not (pt_val (pe_call GS hr4 (by rfl) gS FS.kp bS .nil pass0 (pa_cons (pe_call GF hr2 (by rfl) gF FF.kp bF .nil pass0 (pa_cons (pv 3) (pa_cons (pv 7) (pa_cons (pv 6) pa_nil)))) (pa_cons (pv 8) pa_nil))))) (pw_or1 (pt_not (pt_val (pe_call GRt hr (by rfl) gRt FRt.kp bRt .nil pass0 (pa_cons (pv 3) (pa_cons (pv 8) pa_nil)))))))) (pss_one (ps_ret pe_bl)) pss_nil)))))))))))
      (pss_cons (ps_set (i := 3) scLaw.nd rfl (Or.inr rfl) (pe_op op_add pe_int (pe_call GT hr2 (by rfl) gT FT.kp bT .nil pass0 (pa_cons (pv 1) (pa_cons pe_int pa_nil)))))
      (pss_cons (ps_set (i := 9) scLaw.nd rfl (Or.inl rfl) pe_int)
      (pss_cons (ps_for PassesOwn.never rfl (pi_range1 (by rfl) T.range (pa_cons (pe_op op_add pe_int (pe_call GT hr2 (by rfl) gT FT.kp bT .nil pass0 (pa_cons (pv 1) (pa_cons pe_int pa_nil)))) pa_nil)) (pg_name (i := 4) scLaw.nd rfl (Or.inl rfl)) (pss_one (ps_set (i := 9) scLaw.nd rfl (Or.inl rfl) (pe_op op_mul (pv 9) (pv 3)))))
      (pss_cons (ps_set (i := 7) scLaw.nd rfl (Or.inl rfl) (pe_callTy call_tuple_of (by rfl) T.tuple boot_tuple (pa_cons (pe_lc (own := [("k", 4)]) (g := gName 4) (tt := tYes) rfl scLaw.nd (pi_range1 (by rfl) T.range (pa_cons pe_int pa_nil)) (blkOk_by (N := ["script", "pen", "turn", "base", "k", "some", "ring", "stem", "due", "far", "fraction"]) (sc := defScope sLaw) (by decide +kernel)) (fun _ _ _ _ _ => pg_name (i := 4) scLaw.nd rfl (Or.inl rfl)) (fun _ _ _ _ _ => pts_nil) (fun _ _ _ _ _ => (pe_call GT hr2 (by rfl) gT FT.kp bT .nil pass0 (pa_cons (pv 1) (pa_cons (pv 3) pa_nil))))) pa_nil)))
      (pss_cons (ps_set (i := 5) scLaw.nd rfl (Or.inl rfl) (pe_lst (pa_cons (pe_tup (pa_cons pe_int (pa_cons (pv 9) pa_nil))) (pa_cons (pe_tup (pa_cons (pe_op op_sub (pv 9) pe_int) (pa_cons (pv 9) pa_nil))) (pa_cons (pe_call GR hr1 (by rfl) gR FR.kp bR .nil pass0 (pa_cons (pe_op op_add pe_int (pe_call GT hr2 (by rfl) gT FT.kp bT .nil pass0 (pa_cons (pv 1) (pa_cons (pv 9) pa_nil)))) (pa_cons (pv 9) pa_nil))) (pa_cons (pe_call GWo hr2 (by rfl) gWo FWo.kp bWo .nil pass0 (pa_cons (pv 3) (pa_cons (pv 7) (pa_cons (pe_tup (pa_cons pe_int pa_nil)) pa_nil)))) pa_nil))))))
      (pss_one (ps_ret (pe_cmpR op_notIn_seq pe_bl (pe_lc (own := [("fraction", 10)]) (g := gName 10) (tt := tYes) rfl scLaw.nd (pi_list (pv 5)) (blkOk_by (N := ["script", "pen", "turn", "base", "k", "some", "ring", "stem", "due", "far", "fraction"]) (sc := defScope sLaw) (by decide +kernel)) (fun _ _ _ _ _ => pg_name (i := 10) scLaw.nd rfl (Or.inl rfl)) (fun _ _ _ _ _ => pts_nil) (fun _ _ _ _ _ => (pe_call GRt hr (by rfl) gRt FRt.kp bRt .nil pass0 (pa_cons (pv 3) (pa_cons (pv 10) pa_nil))))) (by rfl))))))))))), ?_⟩
    refine ⟨_, rfl, a, ns, rfl, hS, hlen, fun p H1 np s1 P1 => ?_⟩
    obtain ⟨pc, C1⟩ := P1.c
    refine ⟨6, rfl, by decide, by decide, for_range (n := 6) (fun i σ H2 => ∃ (x2 x3 x4 x5 x6 x7 x8 x9 x10 : Option V), σ = [some (.ref a), some (.ref p), x2, x3, x4, x5, x6, x7, x8, x9, x10] ∧ PenC H2 p pc (100 * i)) ⟨none, none, none, none, none, none, none, none, none, rfl, C1⟩ ?_ ?_⟩
    · rintro i σ H2 hi ⟨x2, x3, x4, x5, x6, x7, x8, x9, x10, rfl, C2⟩
      refine ⟨_, rfl, p, pc, 9, _, rfl, by decide, by decide, C2, by omega, fun m H3 m0 m1 b3 C3 => ?_⟩
      refine ⟨_, _, rfl, rfl, ?_⟩
      dsimp only
      generalize hb : 2 + m = b
      have b0 : 2 ≤ b := by omega
      have b1 : b ≤ 10 := by omega
      -- some
      refine ⟨fun _ => none, same0 H3, fun vs1 G1 H4 n1 d1 => ⟨by rw [d1.len]; show 2 ≤ sizeLine; decide, fun l1 nl1 => ?_⟩⟩
      have C4 := (C3.same n1.hh (Nat.le_refl _)).same (Same.upd (o := .lst vs1) nl1) (Nat.le_refl _)
      have np1 : G1 p = none := n1.old p C3.any.some
      have g4 : Same G1 (upd H4 l1 (.lst vs1)) := n1.gh.trans (Same.upd nl1)
      have l1p : l1 ≠ p := pen_not (C3.same n1.hh (Nat.le_refl _)).any nl1
      refine ⟨6, rfl, by decide, by decide, fun D nD => lc_it (walk_range (lo := 0) (n := 6)) (fun j H5 => ∃ (G : Hp) (ys : List V), PenC H5 p pc (100 * i + 1 + 4 * j) ∧ H5 D = some (.lst ys) ∧ ys.length = j ∧ G p = none ∧ G D = none ∧ Same G H5 ∧ Same G1 G ∧ (∀ y ∈ ys, FrV K G b y) ∧ H5 l1 = some (.lst vs1))
        ⟨G1, [], C4.same (Same.upd nD) (by omega), upd_same, rfl, np1, g4.free nD, g4.trans (Same.upd nD), Same.refl _, (fun y hy => nomatch hy), by rw [upd_ne (ne_of_none upd_same nD)]; exact upd_same⟩ (fun _ _ _ _ => trivial) ?_ ?_⟩
      · rintro j x H5 H6 hj ⟨G, ys, C5, hD, hl, np5, nD5, g5, gg5, hf, hl1⟩ ⟨rfl, rfl⟩
        have Dp : D ≠ p := pen_not C4.any nD
        have Dc : D ≠ pc := fun z => C4.at_c (by rw [← z]; exact nD)
        refine ⟨rfl, ?_⟩
        refine ⟨_, rfl, _, rfl, p, pc, b, 1000, _, G, rfl, by decide, by decide, b0, b1, C5, by omega, g5, np5, fun v n d G6 H7 mv C7 dq n0 nd d0 d1 g1 => ?_⟩
        have hD7 := mv.bt _ _ Dp hD
        have gD7 : G6 D = none := (mv.old D Dp (some_ne hD)).trans nD5
        refine ⟨_, hD7, by rw [sizeLine_eq]; omega, G6, ys ++ [v], C7.upd Dp Dc (by omega) _, upd_same, by rw [List.length_append, hl]; rfl, mv.gp, gD7, ?_, gg5.trans mv.gg, ?_, ?_⟩
        · intro c o hc
          rw [upd_ne (ne_of_none hc gD7)]
          exact mv.gh c o hc
        · intro y hy
          rcases List.mem_append.mp hy with hy | hy
          · exact (hf y hy).mono mv.gg
          · rw [List.mem_singleton.mp hy]; exact ⟨n, d, dq, fra_small b0 b1 n0 nd d0 d1 g1, g1⟩
        · rw [upd_ne (ne_of_none (show (upd H4 l1 (.lst vs1)) l1 = _ from upd_same) nD)]
          exact mv.bt _ _ l1p hl1
      · rintro H5 ⟨G, ys, C5, hD, hl, np5, nD5, g5, gg5, hf, hl1⟩
        refine ⟨l1, D, vs1, ys, rfl, rfl, hl1, hD, (by rw [d1.len, hl]; show 8 ≤ sizeLine; decide), fun t nt => ?_⟩
        have C6 := C5.same (Same.upd (o := .lst (vs1 ++ ys)) nt) (Nat.le_refl _)
        have hall : ∀ x ∈ vs1 ++ ys, FrV K G b x := by
          intro x hx
          rcases List.mem_append.mp hx with hx | hx
          · obtain ⟨q, hq⟩ := List.mem_iff_getElem?.mp hx
            obtain ⟨d, hd, dq⟩ := (d1.mono gg5).get hq
            have := List.mem_of_getElem? hd
            simp only [List.mem_cons, List.not_mem_nil, or_false] at this
            rcases this with rfl | rfl
            · exact ⟨0, 1, dq, fra_small b0 b1 (by decide) (by decide) (by decide) (by decide) (by decide), by decide⟩
            · exact ⟨1, 1, dq, fra_small b0 b1 (by decide) (by decide) (by decide) (by decide) (by decide), by decide⟩
          · exact hf x hx
        have lall : (vs1 ++ ys).length = 8 := by rw [List.length_append, d1.len, hl]; rfl
        refine ⟨_, rfl, t, rfl, ⟨_, SqL.of upd_same⟩, fun D2 nD2 => right_all (g5.trans (Same.upd nt)) upd_same hall (by omega) D2 nD2 _ (fun H6 s6 hD2 => ?_)⟩
        refine ⟨D2, _, rfl, .inl (SqL.of hD2), rfl, flat_true _, _, rfl, ?_⟩
        rw [inV_true]
        refine iteF ?_
        have C7 := C6.same s6 (Nat.le_refl _)
        -- four pairs
        refine ⟨4, rfl, by decide, by decide, for_range (n := 4) (fun j σ H7 => ∃ (y4 y6 y7 y8 : Option V), σ = [some (.ref a), some (.ref p), some (.int (0 + (i : Int))), some (.int b), y4, some (.ref t), y6, y7, y8, x9, x10] ∧ PenC H7 p pc (100 * i + 25 + 12 * j)) ⟨_, _, _, _, rfl, C7.same (Same.refl _) (by omega)⟩ ?_ ?_⟩
        · rintro j σ H7 hj ⟨y4, y6, y7, y8, rfl, C8⟩
          -- ring
          refine ⟨_, rfl, _, rfl, p, pc, b, 1, 4, _, fun _ => none, rfl, b0, b1, by decide, by decide, C8, by omega, same0 H7, rfl, fun v1 l1 G8 H8 mv8 C9 dq8 dg8 ll8 lh8 => ?_⟩
          refine ⟨_, rfl, p, pc, 3, _, rfl, by decide, by decide, C9, by omega, fun u H9 u0 u1 b9 C10 => ?_⟩
          obtain ⟨ra, rfl, hra⟩ := dq_tup dq8
          have g9 : Same G8 H9 := same_but mv8.gh mv8.gp b9
          refine ⟨_, _, rfl, rfl, G8, ra, 1 + u, _, rfl, rfl, g9, hra, ?_, by omega, by omega, by rw [List.length_map]; omega, fun rb G10 H10 m10 hrb => ?_⟩
          · intro z
            have := congrArg List.length z
            rw [List.length_map, List.length_nil] at this
            omega
          obtain ⟨R, hR⟩ : ∃ R, (List.replicate (1 + u).toNat l1).flatten = R := ⟨_, rfl⟩
          rw [rep_flat2, hR] at hrb
          have dR : Digs b R := hR ▸ digs_rep dg8 _
          have lR : R.length = (1 + u).toNat * l1.length := by rw [← hR, len_rep]
          have lR1 : 1 ≤ R.length := by
            rw [lR]
            exact Nat.mul_pos (by omega) (by omega)
          have lR2 : R.length ≤ 12 := by
            rw [lR]
            have : (1 + u).toNat * l1.length ≤ 3 * 4 := Nat.mul_le_mul (by omega) lh8
            omega
          have hRn : R ≠ [] := fun z => by rw [z] at lR1; simp at lR1
          have C11 := C10.same m10.hh (Nat.le_refl _)
          have np10 : G10 p = none := (m10.old p C10.any.some).trans mv8.gp
          -- stem
          refine ⟨_, rfl, _, rfl, p, pc, b, 0, 4, _, G10, rfl, b0, b1, by decide, by decide, C11, by omega, m10.gh, np10, fun v2 l2 G11 H11 mv11 C12 dq11 dg11 _ lh11 => ?_⟩
          obtain ⟨sa, rfl, hsa⟩ := dq_tup dq11
          have hrb11 := mv11.gg _ _ hrb
          refine ⟨_, rfl, _, rfl, rb, _, rfl, .inr (SqT.of (mv11.gh _ _ hrb11)), _, rfl, _, rfl, rb, _, rfl, .inr (SqT.of (mv11.gh _ _ hrb11)), _, _, rfl, rfl, p, pc, _, _, rfl, (by rw [List.length_map]; omega), Nat.lt_of_le_of_lt (show (((R.map V.int).length : Int) + 1).natAbs ≤ 1000 by rw [List.length_map]; omega) (by decide), C12, by omega, fun c H12 c0 c1 b12 C13 => ?_⟩
          rw [List.length_map] at c1
          have g12 : Same G11 H12 := same_but mv11.gh mv11.gp b12
          obtain ⟨e, he⟩ : ∃ e : Nat, ((R.map V.int).length : Int) - c = (e : Int) := ⟨((R.map V.int).length - c).toNat, by rw [List.length_map]; omega⟩
          refine ⟨_, _, rfl, rfl, _, rfl, G11, rb, _, rfl, g12, hrb11, fun rc G13 H13 m13 hrc => ?_⟩
          rw [he, cut_drop] at hrc
          refine ⟨G13, sa, rc, _, _, rfl, rfl, m13.gh, m13.gg _ _ hsa, hrc, (by rw [List.length_map, List.length_map, List.length_drop, sizeLine_eq]; omega), fun sb G14 H14 m14 hsb => ?_⟩
          rw [← List.map_append] at hsb
          obtain ⟨S, hS⟩ : ∃ S, l2 ++ R.drop e = S := ⟨_, rfl⟩
          rw [hS] at hsb
          have dS : Digs b S := fun x hx => by
            rw [← hS] at hx
            rcases List.mem_append.mp hx with hx | hx
            · exact dg11 x hx
            · exact dR x (List.mem_of_mem_drop hx)
          have lS : S.length ≤ 16 := by rw [← hS, List.length_append, List.length_drop]; omega
          have C15 := (C13.same m13.hh (Nat.le_refl _)).same m14.hh (Nat.le_refl _)
          have hrb14 := m14.gg _ _ (m13.gg _ _ hrb11)
          have dqS : Dq K G14 (.ref sb) (iTup S) := dq_mk hsb
          have dqR : Dq K G14 (.ref rb) (iTup R) := dq_mk hrb14
          -- due
          refine ⟨_, rfl, _, rfl, _, rfl, b, _, _, S, R, G14, rfl, b0, b1, m14.gh, dqS, dqR, hRn, dS, dR, by omega, fun v3 G15 H15 m15 dq15 => ?_⟩
          have C16 := C15.same m15.hh (Nat.le_refl _)
          -- fraction_of
          refine ⟨_, rfl, _, rfl, _, rfl, b, _, _, S, R, G15, rfl, b0, b1, m15.gh, dqS.mono m15.gg, dqR.mono m15.gg, hRn, dS, dR, by omega, fun v4 G16 H16 m16 dq16 => ?_⟩
          refine ⟨_, rfl, v4, v3, frD b S R, rfl, dq16.mono m16.gh, dq15.mono (m16.gg.trans m16.gh), sh_ints (l := [_, _]) (by simp) 2, fun H17 s17 => ?_⟩
          have fw := fra_worth b0 b1 dS dR hRn (by omega)
          refine ⟨_, rfl, iteF ⟨_, rfl, _, rfl, b, _, _, v3, G15, rfl, m15.gh.trans (m16.hh.trans s17), dq15, fw.1, fw.2, fun H18 s18 => ?_⟩⟩
          refine ⟨_, rfl, iteF ⟨_, _, _, _, rfl, ?_⟩⟩
          exact ((C16.same m16.hh (Nat.le_refl _)).same s17 (Nat.le_refl _)).same s18 (by omega)
        · rintro σ H7 ⟨y4, y6, y7, y8, rfl, C8⟩
          exact ⟨_, _, _, _, _, _, _, _, _, rfl, C8.same (Same.refl _) (by omega)⟩
    · rintro σ H2 ⟨x2, x3, x4, x5, x6, x7, x8, x9, x10, rfl, C2⟩
      refine ⟨_, rfl, p, pc, 9, _, rfl, by decide, by decide, C2, by omega, fun m H3 m0 m1 b3 C3 => ?_⟩
      refine ⟨_, _, rfl, rfl, ?_⟩
      dsimp only
      generalize hb : 2 + m = b
      have b0 : 2 ≤ b := by omega
      have b1 : b ≤ 10 := by omega
      refine ⟨_, rfl, p, pc, 400, _, rfl, by decide, by decide, C3, by omega, fun c H4 c0 c1 b4 C4 => ?_⟩
      obtain ⟨N, hN⟩ : ∃ N : Nat, 1 + c = (N : Int) := ⟨(1 + c).toNat, by omega⟩
      have N1 : 1 ≤ N := by omega
      have N2 : N ≤ 400 := by omega
      refine ⟨_, _, rfl, rfl, _, rfl, by omega, by omega, ?_⟩
      rw [show (1 + c).toNat = N by omega]
      refine for_range (n := N) (fun i σ H5 => ∃ y4 : Option V, σ = [some (.ref a), some (.ref p), x2, some (.int b), y4, x5, x6, x7, x8, some (.int (b ^ i)), x10] ∧ H5 = H4) ⟨x4, by rw [Int.pow_zero]; rfl, rfl⟩ ?_ ?_
      · rintro i σ H5 hi ⟨y4, rfl, rfl⟩
        refine ⟨_, rfl, _, rfl, _, _, rfl, rfl, small_base b0 b1 _, some (.int (0 + (i : Int))), ?_, rfl⟩
        rw [Int.pow_succ]; rfl
      rintro σ H5 ⟨y4, rfl, rfl⟩
      have F1 : 2 ≤ b ^ N := pow_ge_2 b0 N1
      have Fs : (b ^ N).natAbs < 2 ^ 8000 := Nat.lt_of_lt_of_le (pow_lt_2 b0 b1 N) (Nat.pow_le_pow_right (by decide) (by omega))
      have Fv : b ^ N ∣ b ^ N * (b ^ 1 - 1) := ⟨b ^ 1 - 1, rfl⟩
      -- stem
      refine ⟨300, rfl, by decide, by decide, fun D nD => ?_⟩
      have Dp : D ≠ p := pen_not C4.any nD
      have Dc : D ≠ pc := fun z => C4.at_c (by rw [← z]; exact nD)
      refine lc_it (walk_range (lo := 0) (n := 300)) (fun i H6 => PenC H6 p pc (602 + i) ∧ i ≤ 300 ∧ ∃ l : List Int, l.length = i ∧ Digs b l ∧ H6 D = some (.lst (l.map V.int))) ⟨C4.same (Same.upd nD) (by omega), Nat.zero_le _, [], rfl, (fun x hx => nomatch hx), upd_same⟩ (fun _ _ _ _ => trivial) ?_ ?_
      · rintro i x H6 H7 hi ⟨C6, _, l, hl, hd, hD⟩ ⟨rfl, rfl⟩
        refine ⟨rfl, ?_⟩
        refine ⟨_, rfl, _, rfl, p, pc, b, _, rfl, by omega, Nat.lt_of_le_of_lt (show b.natAbs ≤ 1001 by omega) (by decide), C6, by omega, fun z H8 z0 z1 b8 C8 => ?_⟩
        have hD8 := b8 _ _ Dp hD
        refine ⟨_, hD8, by rw [List.length_map, sizeLine_eq]; omega, C8.upd Dp Dc (by omega) _, by omega, l ++ [z], by rw [List.length_append, hl]; rfl, ?_, by rw [upd_same, List.map_append]; rfl⟩
        intro x hx
        rcases List.mem_append.mp hx with hx | hx
        · exact hd x hx
        · rw [List.mem_singleton.mp hx]; exact ⟨z0, z1⟩
      rintro H6 ⟨C6, _, l, hl, hd, hD⟩
      refine ⟨D, _, rfl, .inl ⟨SqL.of hD, fun st nst => ?_⟩⟩
      have n0 := Nw.mk1 (same0 H6) nst (.tup (l.map V.int))
      have C7 := C6.same n0.hh (Nat.le_refl _)
      have np0 : (upd (fun _ => none) st (.tup (l.map V.int)) : Hp) p = none := (n0.old p C6.any.some)
      -- some
      refine ⟨_, rfl, (by show 2 ≤ sizeLine; decide), fun t1 nt1 => ?_⟩
      have n1 := Nw.mk1 n0.gh nt1 (.tup [.int 1, .int (b ^ N)])
      refine ⟨_, rfl, _, _, rfl, rfl, _, rfl, (by show 2 ≤ sizeLine; decide), fun t2 nt2 => ?_⟩
      have n2 := n1.trans (Nw.mk1 n1.gh nt2 (.tup [.int (b ^ N - 1), .int (b ^ N)]))
      have C8 := C7.same n2.hh (Nat.le_refl _)
      have np2 := (n2.old p C7.any.some).trans np0
      refine ⟨_, rfl, _, rfl, p, pc, b ^ N, _, rfl, by omega, Fs, C8, by omega, fun u H9 u0 u1 b9 C9 => ?_⟩
      have g9 := same_but n2.gh np2 b9
      refine ⟨_, _, rfl, rfl, _, rfl, 1 + u, b ^ N, rfl, by omega, by omega, Fs, fun q nq => ?_⟩
      have lw := low_red (show 0 ≤ 1 + u by omega) (show 1 + u ≤ b ^ N by omega) (show 0 < b ^ N by omega)
      have n3 := Nw.mk1 g9 nq (.tup [.int ((1 + u) / gN (1 + u) (b ^ N)), .int (b ^ N / gN (1 + u) (b ^ N))])
      refine ⟨_, rfl, _, rfl, (by show 1 ≤ sizeLine; decide), fun t5 nt5 => ?_⟩
      have n4 := n3.trans (Nw.mk1 n3.gh nt5 (.tup [.int 0]))
      have hst := n4.gg _ _ (n2.gg _ _ (show (upd (fun _ => none) st (.tup (l.map V.int)) : Hp) st = _ from upd_same))
      have d0' : Digs b [0] := fun x hx => by rw [List.mem_singleton.mp hx]; omega
      refine ⟨b, _, _, l, [0], _, rfl, b0, b1, n4.gh, dq_mk hst, dq_mk (l := [0]) upd_same, by simp, hd, d0', by rw [hl]; decide, fun v G5 H10 m5 dq5 => ?_⟩
      refine ⟨(by show 4 ≤ sizeLine; decide), fun sl nsl => ?_⟩
      have fw := fra_worth b0 b1 hd d0' (by simp) (by rw [hl]; decide)
      have g15 := n4.gg.trans m5.gg
      have hall : ∀ x ∈ [V.ref t1, V.ref t2, V.ref q, v], FrV K G5 b x := by
        intro x hx
        simp only [List.mem_cons, List.not_mem_nil, or_false] at hx
        rcases hx with rfl | rfl | rfl | rfl
        · refine ⟨1, b ^ N, dq_mk (l := [1, b ^ N]) (g15 _ _ ((Nw.mk1 n1.gh nt2 (.tup [.int (b ^ N - 1), .int (b ^ N)])).gg _ _ upd_same)), fra_dvd b0 b1 (by decide) (by omega) (by omega) (s := N) (r := 1) (by decide) (by omega) Fv (by simp), by simp⟩
        · suffices gq : Nat.gcd (b ^ N - 1).natAbs (b ^ N).natAbs = 1 from ⟨b ^ N - 1, b ^ N, dq_mk (l := [b ^ N - 1, b ^ N]) (g15 _ _ upd_same), fra_dvd b0 b1 (by omega) (by omega) (by omega) (s := N) (r := 1) (by decide) (by omega) Fv gq, gq⟩
          obtain ⟨F, hF⟩ : ∃ F : Nat, b ^ N = (F : Int) := ⟨(b ^ N).toNat, by omega⟩
          rw [hF]
          have hd1 := Nat.gcd_dvd_left ((F : Int) - 1).natAbs ((F : Int)).natAbs
          have hd2 := Nat.gcd_dvd_right ((F : Int) - 1).natAbs ((F : Int)).natAbs
          have hd3 := Nat.dvd_sub hd2 hd1
          have e1 : ((F : Int)).natAbs - ((F : Int) - 1).natAbs = 1 := by omega
          rw [e1] at hd3
          exact Nat.dvd_one.mp hd3
        · exact ⟨_, _, dq_mk (l := [_, _]) (m5.gg _ _ ((Nw.mk1 n3.gh nt5 (.tup [.int 0])).gg _ _ upd_same)), fra_dvd b0 b1 lw.n0 lw.nd lw.d0 (s := N) (r := 1) (by decide) (by omega) (Int.dvd_trans lw.dv Fv) lw.gc, lw.gc⟩
        · exact ⟨_, _, dq5, fw.1, fw.2⟩
      refine ⟨_, rfl, sl, rfl, ⟨_, SqL.of upd_same⟩, fun D2 nD2 => right_all (m5.gh.trans (Same.upd nsl)) upd_same hall (by show 4 ≤ 1000; decide) D2 nD2 _ (fun H11 s11 hD2 => ?_)⟩
      refine ⟨D2, _, rfl, .inl (SqL.of hD2), rfl, flat_true _, ?_⟩
      rw [inV_true]
      exact k _
end
end My

namespace My
open PySem PySem.Spec PyProof.Rows L2
theorem all_mk {l : PySem.W.OpenLaw} {w : World} {K : PySem.W.Frag} {h : Heap} {mg : Str → Option Value} {fa f1 f2 f3 f4 f5 f6 f7 f8 f9 f10 f11 f12 f13 f14 f15 f16 f17 f18 f19 f20 : Addr} (X : K.In h) (G : h.Ns mainGlobals mg) (hfa : mg "law" = some (.ref fa))
    {od1 an1 od2 an2 od3 an3 od4 an4 od5 an5 od6 an6 od7 an7 od8 an8 od9 an9 od10 an10 od11 an11 od12 an12 od13 an13 od14 an14 od15 an15 od16 an16 od17 an17 od18 an18 od19 an19 od20 an20 : Option Addr} {sl1 sl2 sl3 sl4 sl5 sl6 sl7 sl8 sl9 sl10 sl11 sl12 sl13 sl14 sl15 sl16 sl17 sl18 sl19 sl20 : Array (Option Value)} {oc1 kV1 dc1 pm1 cd1 ct1 oc2 kV2 dc2 pm2 cd2 ct2 oc3 kV3 dc3 pm3 cd3 ct3 oc4 kV4 dc4 pm4 cd4 ct4 oc5 kV5 dc5 pm5 cd5 ct5 oc6 kV6 dc6 pm6 cd6 ct6 oc7 kV7 dc7 pm7 cd7 ct7 oc8 kV8 dc8 pm8 cd8 ct8 oc9 kV9 dc9 pm9 cd9 ct9 oc10 kV10 dc10 pm10 cd10 ct10 oc11 kV11 dc11 pm11 cd11 ct11 oc12 kV12 dc12 pm12 cd12 ct12 oc13 kV13 dc13 pm13 cd13 ct13 oc14 kV14 dc14 pm14 cd14 ct14 oc15 kV15 dc15 pm15 cd15 ct15 oc16 kV16 dc16 pm16 cd16 ct16 oc17 kV17 dc17 pm17 cd17 ct17 oc18 kV18 dc18 pm18 cd18 ct18 oc19 kV19 dc19 pm19 cd19 ct19 oc20 kV20 dc20 pm20 cd20 ct20 : Value}
    (a1 : PySem.W.nsIn K mainGlobals "writings_of" = some (some (.ref f1))) (l1 : K.lookup f1 = some ⟨oc1, od1, .func (PySem.W.fnOf "writings_of" "writings_of" (defArgs sWritings) (defBody sWritings) (defScope sWritings) .none kV1 dc1 pm1 an1 cd1 ct1), sl1⟩) (c1 : PySem.W.codeIn K cd1 "writings_of" = true) (k1 : PySem.W.keepIn K (.ref f1) = true)
    (a2 : PySem.W.nsIn K mainGlobals "fraction_of" = some (some (.ref f2))) (l2 : K.lookup f2 = some ⟨oc2, od2, .func (PySem.W.fnOf "fraction_of" "fraction_of" (defArgs sFractionOf) (defBody sFractionOf) (defScope sFractionOf) .none kV2 dc2 pm2 an2 cd2 ct2), sl2⟩) (c2 : PySem.W.codeIn K cd2 "fraction_of" = true) (k2 : PySem.W.keepIn K (.ref f2) = true)
    (a3 : PySem.W.nsIn K mainGlobals "_divided" = some (some (.ref f3))) (l3 : K.lookup f3 = some ⟨oc3, od3, .func (PySem.W.fnOf "_divided" "_divided" (defArgs sDivided) (defBody sDivided) (defScope sDivided) .none kV3 dc3 pm3 an3 cd3 ct3), sl3⟩) (c3 : PySem.W.codeIn K cd3 "_divided" = true) (k3 : PySem.W.keepIn K (.ref f3) = true)
    (a4 : PySem.W.nsIn K mainGlobals "_stem_size" = some (some (.ref f4))) (l4 : K.lookup f4 = some ⟨oc4, od4, .func (PySem.W.fnOf "_stem_size" "_stem_size" (defArgs sStemSize) (defBody sStemSize) (defScope sStemSize) .none kV4 dc4 pm4 an4 cd4 ct4), sl4⟩) (c4 : PySem.W.codeIn K cd4 "_stem_size" = true) (k4 : PySem.W.keepIn K (.ref f4) = true)
    (a5 : PySem.W.nsIn K mainGlobals "_once" = some (some (.ref f5))) (l5 : K.lookup f5 = some ⟨oc5, od5, .func (PySem.W.fnOf "_once" "_once" (defArgs sOnce) (defBody sOnce) (defScope sOnce) .none kV5 dc5 pm5 an5 cd5 ct5), sl5⟩) (c5 : PySem.W.codeIn K cd5 "_once" = true) (k5 : PySem.W.keepIn K (.ref f5) = true)
    (a6 : PySem.W.nsIn K mainGlobals "_number_of" = some (some (.ref f6))) (l6 : K.lookup f6 = some ⟨oc6, od6, .func (PySem.W.fnOf "_number_of" "_number_of" (defArgs sNumberOf) (defBody sNumberOf) (defScope sNumberOf) .none kV6 dc6 pm6 an6 cd6 ct6), sl6⟩) (c6 : PySem.W.codeIn K cd6 "_number_of" = true) (k6 : PySem.W.keepIn K (.ref f6) = true)
    (a7 : PySem.W.nsIn K mainGlobals "in_lowest_terms" = some (some (.ref f7))) (l7 : K.lookup f7 = some ⟨oc7, od7, .func (PySem.W.fnOf "in_lowest_terms" "in_lowest_terms" (defArgs sInLowest) (defBody sInLowest) (defScope sInLowest) .none kV7 dc7 pm7 an7 cd7 ct7), sl7⟩) (c7 : PySem.W.codeIn K cd7 "in_lowest_terms" = true) (k7 : PySem.W.keepIn K (.ref f7) = true)
    (a8 : PySem.W.nsIn K mainGlobals "_law_spread" = some (some (.ref f8))) (l8 : K.lookup f8 = some ⟨oc8, od8, .func (PySem.W.fnOf "_law_spread" "_law_spread" (defArgs sSpread) (defBody sSpread) (defScope sSpread) .none kV8 dc8 pm8 an8 cd8 ct8), sl8⟩) (c8 : PySem.W.codeIn K cd8 "_law_spread" = true) (k8 : PySem.W.keepIn K (.ref f8) = true)
    (a9 : PySem.W.nsIn K mainGlobals "_law_open" = some (some (.ref f9))) (l9 : K.lookup f9 = some ⟨oc9, od9, .func (PySem.W.fnOf "_law_open" "_law_open" (defArgs sOpen) (defBody sOpen) (defScope sOpen) .none kV9 dc9 pm9 an9 cd9 ct9), sl9⟩) (c9 : PySem.W.codeIn K cd9 "_law_open" = true) (k9 : PySem.W.keepIn K (.ref f9) = true)
    (a10 : PySem.W.nsIn K mainGlobals "_law_take" = some (some (.ref f10))) (l10 : K.lookup f10 = some ⟨oc10, od10, .func (PySem.W.fnOf "_law_take" "_law_take" (defArgs sTake) (defBody sTake) (defScope sTake) .none kV10 dc10 pm10 an10 cd10 ct10), sl10⟩) (c10 : PySem.W.codeIn K cd10 "_law_take" = true) (k10 : PySem.W.keepIn K (.ref f10) = true)
    (a11 : PySem.W.nsIn K mainGlobals "_law_same" = some (some (.ref f11))) (l11 : K.lookup f11 = some ⟨oc11, od11, .func (PySem.W.fnOf "_law_same" "_law_same" (defArgs sSame) (defBody sSame) (defScope sSame) .none kV11 dc11 pm11 an11 cd11 ct11), sl11⟩) (c11 : PySem.W.codeIn K cd11 "_law_same" = true) (k11 : PySem.W.keepIn K (.ref f11) = true)
    (a12 : PySem.W.nsIn K mainGlobals "_law_reduced" = some (some (.ref f12))) (l12 : K.lookup f12 = some ⟨oc12, od12, .func (PySem.W.fnOf "_law_reduced" "_law_reduced" (defArgs sRed) (defBody sRed) (defScope sRed) .none kV12 dc12 pm12 an12 cd12 ct12), sl12⟩) (c12 : PySem.W.codeIn K cd12 "_law_reduced" = true) (k12 : PySem.W.keepIn K (.ref f12) = true)
    (a13 : PySem.W.nsIn K mainGlobals "_law_fraction" = some (some (.ref f13))) (l13 : K.lookup f13 = some ⟨oc13, od13, .func (PySem.W.fnOf "_law_fraction" "_law_fraction" (defArgs sLFraction) (defBody sLFraction) (defScope sLFraction) .none kV13 dc13 pm13 an13 cd13 ct13), sl13⟩) (c13 : PySem.W.codeIn K cd13 "_law_fraction" = true) (k13 : PySem.W.keepIn K (.ref f13) = true)
    (a14 : PySem.W.nsIn K mainGlobals "_law_divided" = some (some (.ref f14))) (l14 : K.lookup f14 = some ⟨oc14, od14, .func (PySem.W.fnOf "_law_divided" "_law_divided" (defArgs sLDivided) (defBody sLDivided) (defScope sLDivided) .none kV14 dc14 pm14 an14 cd14 ct14), sl14⟩) (c14 : PySem.W.codeIn K cd14 "_law_divided" = true) (k14 : PySem.W.keepIn K (.ref f14) = true)
    (a15 : PySem.W.nsIn K mainGlobals "_law_writings" = some (some (.ref f15))) (l15 : K.lookup f15 = some ⟨oc15, od15, .func (PySem.W.fnOf "_law_writings" "_law_writings" (defArgs sLWritings) (defBody sLWritings) (defScope sLWritings) .none kV15 dc15 pm15 an15 cd15 ct15), sl15⟩) (c15 : PySem.W.codeIn K cd15 "_law_writings" = true) (k15 : PySem.W.keepIn K (.ref f15) = true)
    (a16 : PySem.W.nsIn K mainGlobals "_law_number" = some (some (.ref f16))) (l16 : K.lookup f16 = some ⟨oc16, od16, .func (PySem.W.fnOf "_law_number" "_law_number" (defArgs sLNumber) (defBody sLNumber) (defScope sLNumber) .none kV16 dc16 pm16 an16 cd16 ct16), sl16⟩) (c16 : PySem.W.codeIn K cd16 "_law_number" = true) (k16 : PySem.W.keepIn K (.ref f16) = true)
    (a17 : PySem.W.nsIn K mainGlobals "_law_worth" = some (some (.ref f17))) (l17 : K.lookup f17 = some ⟨oc17, od17, .func (PySem.W.fnOf "_law_worth" "_law_worth" (defArgs sWorth) (defBody sWorth) (defScope sWorth) .none kV17 dc17 pm17 an17 cd17 ct17), sl17⟩) (c17 : PySem.W.codeIn K cd17 "_law_worth" = true) (k17 : PySem.W.keepIn K (.ref f17) = true)
    (a18 : PySem.W.nsIn K mainGlobals "_law_digits" = some (some (.ref f18))) (l18 : K.lookup f18 = some ⟨oc18, od18, .func (PySem.W.fnOf "_law_digits" "_law_digits" (defArgs sLDigits) (defBody sLDigits) (defScope sLDigits) .none kV18 dc18 pm18 an18 cd18 ct18), sl18⟩) (c18 : PySem.W.codeIn K cd18 "_law_digits" = true) (k18 : PySem.W.keepIn K (.ref f18) = true)
    (a19 : PySem.W.nsIn K mainGlobals "_law_right" = some (some (.ref f19))) (l19 : K.lookup f19 = some ⟨oc19, od19, .func (PySem.W.fnOf "_law_right" "_law_right" (defArgs sRight) (defBody sRight) (defScope sRight) .none kV19 dc19 pm19 an19 cd19 ct19), sl19⟩) (c19 : PySem.W.codeIn K cd19 "_law_right" = true) (k19 : PySem.W.keepIn K (.ref f19) = true)
    (a20 : PySem.W.nsIn K mainGlobals "law" = some (some (.ref f20))) (l20 : K.lookup f20 = some ⟨oc20, od20, .func (PySem.W.fnOf "law" "law" (defArgs sLaw) (defBody sLaw) (defScope sLaw) .none kV20 dc20 pm20 an20 cd20 ct20), sl20⟩) (c20 : PySem.W.codeIn K cd20 "law" = true) (k20 : PySem.W.keepIn K (.ref f20) = true)
    (z_isinstance : PySem.W.nsIn K mainGlobals "isinstance" = some none)
    (z_int : PySem.W.nsIn K mainGlobals "int" = some none)
    (z_bool : PySem.W.nsIn K mainGlobals "bool" = some none)
    (z_str : PySem.W.nsIn K mainGlobals "str" = some none)
    (z_tuple : PySem.W.nsIn K mainGlobals "tuple" = some none)
    (z_list : PySem.W.nsIn K mainGlobals "list" = some none)
    (z_len : PySem.W.nsIn K mainGlobals "len" = some none)
    (z_zip : PySem.W.nsIn K mainGlobals "zip" = some none)
    (z_enumerate : PySem.W.nsIn K mainGlobals "enumerate" = some none)
    (z_range : PySem.W.nsIn K mainGlobals "range" = some none)
    (z_divmod : PySem.W.nsIn K mainGlobals "divmod" = some none)
    (z_max : PySem.W.nsIn K mainGlobals "max" = some none)
    (zG : PySem.W.nsIn K mainGlobals "gcd" = some (some (.builtin "math.gcd")))
    : ∃ fd : FuncData, (∀ (s : Shared) (v : Value), BindsTo s fd ⟨[v], []⟩ [("script", v)]) ∧ ∀ base : Heap, K.In base → base.Ns mainGlobals mg → AtTop l.prog w K mg base fa fd ["script"] (spLaw K) := by
  have e := hfa.symm.trans (PySem.W.mg_of X G a20)
  cases e
  have F1 := fun_mk (st := sWritings) l1 c1 k1; have g1 := PySem.W.mg_of X G a1
  have F2 := fun_mk (st := sFractionOf) l2 c2 k2; have g2 := PySem.W.mg_of X G a2
  have F3 := fun_mk (st := sDivided) l3 c3 k3; have g3 := PySem.W.mg_of X G a3
  have F4 := fun_mk (st := sStemSize) l4 c4 k4; have g4 := PySem.W.mg_of X G a4
  have F5 := fun_mk (st := sOnce) l5 c5 k5; have g5 := PySem.W.mg_of X G a5
  have F6 := fun_mk (st := sNumberOf) l6 c6 k6; have g6 := PySem.W.mg_of X G a6
  have F7 := fun_mk (st := sInLowest) l7 c7 k7; have g7 := PySem.W.mg_of X G a7
  have F8 := fun_mk (st := sSpread) l8 c8 k8; have g8 := PySem.W.mg_of X G a8
  have F9 := fun_mk (st := sOpen) l9 c9 k9; have g9 := PySem.W.mg_of X G a9
  have F10 := fun_mk (st := sTake) l10 c10 k10; have g10 := PySem.W.mg_of X G a10
  have F11 := fun_mk (st := sSame) l11 c11 k11; have g11 := PySem.W.mg_of X G a11
  have F12 := fun_mk (st := sRed) l12 c12 k12; have g12 := PySem.W.mg_of X G a12
  have F13 := fun_mk (st := sLFraction) l13 c13 k13; have g13 := PySem.W.mg_of X G a13
  have F14 := fun_mk (st := sLDivided) l14 c14 k14; have g14 := PySem.W.mg_of X G a14
  have F15 := fun_mk (st := sLWritings) l15 c15 k15; have g15 := PySem.W.mg_of X G a15
  have F16 := fun_mk (st := sLNumber) l16 c16 k16; have g16 := PySem.W.mg_of X G a16
  have F17 := fun_mk (st := sWorth) l17 c17 k17; have g17 := PySem.W.mg_of X G a17
  have F18 := fun_mk (st := sLDigits) l18 c18 k18; have g18 := PySem.W.mg_of X G a18
  have F19 := fun_mk (st := sRight) l19 c19 k19; have g19 := PySem.W.mg_of X G a19
  have F20 := fun_mk (st := sLaw) l20 c20 k20; have g20 := PySem.W.mg_of X G a20
  have m_isinstance := PySem.W.mg_none_of X G z_isinstance
  have m_int := PySem.W.mg_none_of X G z_int
  have m_bool := PySem.W.mg_none_of X G z_bool
  have m_str := PySem.W.mg_none_of X G z_str
  have m_tuple := PySem.W.mg_none_of X G z_tuple
  have m_list := PySem.W.mg_none_of X G z_list
  have m_len := PySem.W.mg_none_of X G z_len
  have m_zip := PySem.W.mg_none_of X G z_zip
  have m_enumerate := PySem.W.mg_none_of X G z_enumerate
  have m_range := PySem.W.mg_none_of X G z_range
  have m_divmod := PySem.W.mg_none_of X G z_divmod
  have m_max := PySem.W.mg_none_of X G z_max
  have b1 := F1.binds (ps := ["base", "fraction"]) fun _ _ _ _ _ _ us hl => match us, hl with | [_, _], _ => rfl
  have b2 := F2.binds (ps := ["base", "stem", "ring"]) fun _ _ _ _ _ _ us hl => match us, hl with | [_, _, _], _ => rfl
  have b3 := F3.binds (ps := ["base", "top", "bottom"]) fun _ _ _ _ _ _ us hl => match us, hl with | [_, _, _], _ => rfl
  have b4 := F4.binds (ps := ["base", "bottom"]) fun _ _ _ _ _ _ us hl => match us, hl with | [_, _], _ => rfl
  have b5 := F5.binds (ps := ["ring"]) fun _ _ _ _ _ _ us hl => match us, hl with | [_], _ => rfl
  have b6 := F6.binds (ps := ["base", "digits"]) fun _ _ _ _ _ _ us hl => match us, hl with | [_, _], _ => rfl
  have b7 := F7.binds (ps := ["top", "bottom"]) fun _ _ _ _ _ _ us hl => match us, hl with | [_, _], _ => rfl
  have b8 := F8.binds (ps := ["cell", "at"]) fun _ _ _ _ _ _ us hl => match us, hl with | [_, _], _ => rfl
  have b9 := F9.binds (ps := ["script"]) fun _ _ _ _ _ _ us hl => match us, hl with | [_], _ => rfl
  have b10 := F10.binds (ps := ["pen", "many"]) fun _ _ _ _ _ _ us hl => match us, hl with | [_, _], _ => rfl
  have b11 := F11.binds (ps := ["found", "due"]) fun _ _ _ _ _ _ us hl => match us, hl with | [_, _], _ => rfl
  have b12 := F12.binds (ps := ["top", "whole"]) fun _ _ _ _ _ _ us hl => match us, hl with | [_, _], _ => rfl
  have b13 := F13.binds (ps := ["pen", "base", "most"]) fun _ _ _ _ _ _ us hl => match us, hl with | [_, _, _], _ => rfl
  have b14 := F14.binds (ps := ["base", "top", "whole"]) fun _ _ _ _ _ _ us hl => match us, hl with | [_, _, _], _ => rfl
  have b15 := F15.binds (ps := ["base", "fraction"]) fun _ _ _ _ _ _ us hl => match us, hl with | [_, _], _ => rfl
  have b16 := F16.binds (ps := ["base", "digits"]) fun _ _ _ _ _ _ us hl => match us, hl with | [_, _], _ => rfl
  have b17 := F17.binds (ps := ["base", "stem", "ring"]) fun _ _ _ _ _ _ us hl => match us, hl with | [_, _, _], _ => rfl
  have b18 := F18.binds (ps := ["pen", "base", "least_many", "most"]) fun _ _ _ _ _ _ us hl => match us, hl with | [_, _, _, _], _ => rfl
  have b19 := F19.binds (ps := ["base", "fraction"]) fun _ _ _ _ _ _ us hl => match us, hl with | [_, _], _ => rfl
  have T : Tx mg := ⟨m_len, m_divmod, m_tuple⟩
  have TS : TxS mg := ⟨m_isinstance, m_int, m_bool, m_str, m_tuple, m_list, m_len, m_zip⟩
  have TF : TxF mg := ⟨m_max, m_int, m_range, m_tuple⟩
  have gG := PySem.W.mg_of X G zG
  refine ⟨PySem.W.fnOf "law" "law" (defArgs sLaw) (defBody sLaw) (defScope sLaw) .none kV20 dc20 pm20 an20 cd20 ct20, fun s v => .of_eq rfl, fun base _ _ => ?_⟩
  have GT := ok_takeC (P := l.prog) (w := w) (base := base) F10 m_len F8 b8 g8
  have GR := ok_red (P := l.prog) (w := w) (mg := mg) (base := base) F12
  have GF := ok_fractionOf (P := l.prog) (w := w) (base := base) F2 F6 b6 g6 F7 b7 g7 gG F5 b5 g5 m_len m_range
  have GDv := ok_divided (P := l.prog) (w := w) (base := base) F3 T m_range F4 b4 g4 gG
  have GW := ok_writings (P := l.prog) (w := w) (base := base) F1 T F3 GDv b3 g3
  have GLw := ok_lwritings (P := l.prog) (w := w) (base := base) F15 T F14 b14 g14
  have GS := ok_same (P := l.prog) (w := w) (base := base) F11 TS b11 g11 4
  have GRt := ok_right (P := l.prog) (w := w) (base := base) F19 ⟨m_range⟩ F15 GLw b15 g15 F1 GW b1 g1 F11 GS b11 g11 F2 GF b2 g2
  exact ok_law F20 ⟨m_range, m_tuple, m_len⟩ F9 (ok_open F9 m_list m_enumerate) b9 g9 F10 GT b10 g10 F13 (ok_lfraction F13 TF F10 GT b10 g10 F12 GR b12 g12) b13 g13 F18 (ok_ldigits F18 TF F10 GT b10 g10) b18 g18 F17 (ok_worth F17 T F16 b16 g16 F12 b12 g12) b17 g17 F11 GS b11 g11 F2 GF b2 g2 F19 GRt b19 g19 F12 GR b12 g12
end My
open PySem PySem.W PyProof.Rows
set_option maxRecDepth 100000 in
set_option maxHeartbeats 0 in
theorem PySem.Challenge.cw_dustwithin_k02_writings_holds : PySem.Challenge.rw_dustwithin_k02_writings.Holds := by
  w_on; o_law; k_head; (case hw => w_witness2)
  k_fill
  refine My.walk_top (l := PySem.Challenge.rw_dustwithin_k02_writings) (n := 63) (x := "script") (sp := fun w => My.spLaw _) rfl (by decide) rfl (fun w h Y => PySem.W.kIn_of Y) ?F (fun _ _ a ns hl _ hS => ⟨a, ns, rfl, hS, hl, fun _ => rfl⟩)
  case F =>
    intro w mg fa h KX G hmg
    refine' My.all_mk KX G hmg ?a1 ?l1 ?c1 ?k1 ?a2 ?l2 ?c2 ?k2 ?a3 ?l3 ?c3 ?k3 ?a4 ?l4 ?c4 ?k4 ?a5 ?l5 ?c5 ?k5 ?a6 ?l6 ?c6 ?k6 ?a7 ?l7 ?c7 ?k7 ?a8 ?l8 ?c8 ?k8 ?a9 ?l9 ?c9 ?k9 ?a10 ?l10 ?c10 ?k10 ?a11 ?l11 ?c11 ?k11 ?a12 ?l12 ?c12 ?k12 ?a13 ?l13 ?c13 ?k13 ?a14 ?l14 ?c14 ?k14 ?a15 ?l15 ?c15 ?k15 ?a16 ?l16 ?c16 ?k16 ?a17 ?l17 ?c17 ?k17 ?a18 ?l18 ?c18 ?k18 ?a19 ?l19 ?c19 ?k19 ?a20 ?l20 ?c20 ?k20 ?z_isinstance ?z_int ?z_bool ?z_str ?z_tuple ?z_list ?z_len ?z_zip ?z_enumerate ?z_range ?z_divmod ?z_max ?zG
    (case a1 => k_is); (case l1 => k_is); (case c1 => k_is); (case k1 => k_is); (case a2 => k_is); (case l2 => k_is)
    (case c2 => k_is); (case k2 => k_is); (case a3 => k_is); (case l3 => k_is); (case c3 => k_is); (case k3 => k_is)
    (case a4 => k_is); (case l4 => k_is); (case c4 => k_is); (case k4 => k_is); (case a5 => k_is); (case l5 => k_is)
    (case c5 => k_is); (case k5 => k_is); (case a6 => k_is); (case l6 => k_is); (case c6 => k_is); (case k6 => k_is)
    (case a7 => k_is); (case l7 => k_is); (case c7 => k_is); (case k7 => k_is); (case a8 => k_is); (case l8 => k_is)
    (case c8 => k_is); (case k8 => k_is); (case a9 => k_is); (case l9 => k_is); (case c9 => k_is); (case k9 => k_is)
    (case a10 => k_is); (case l10 => k_is); (case c10 => k_is); (case k10 => k_is); (case a11 => k_is); (case l11 => k_is)
    (case c11 => k_is); (case k11 => k_is); (case a12 => k_is); (case l12 => k_is); (case c12 => k_is); (case k12 => k_is)
    (case a13 => k_is); (case l13 => k_is); (case c13 => k_is); (case k13 => k_is); (case a14 => k_is); (case l14 => k_is)
    (case c14 => k_is); (case k14 => k_is); (case a15 => k_is); (case l15 => k_is); (case c15 => k_is); (case k15 => k_is)
    (case a16 => k_is); (case l16 => k_is); (case c16 => k_is); (case k16 => k_is); (case a17 => k_is); (case l17 => k_is)
    (case c17 => k_is); (case k17 => k_is); (case a18 => k_is); (case l18 => k_is); (case c18 => k_is); (case k18 => k_is)
    (case a19 => k_is); (case l19 => k_is); (case c19 => k_is); (case k19 => k_is); (case a20 => k_is); (case l20 => k_is)
    (case c20 => k_is); (case k20 => k_is); (case z_isinstance => k_is); (case z_int => k_is); (case z_bool => k_is); (case z_str => k_is)
    (case z_tuple => k_is); (case z_list => k_is); (case z_len => k_is); (case z_zip => k_is); (case z_enumerate => k_is); (case z_range => k_is)
    (case z_divmod => k_is); (case z_max => k_is); (case zG => k_is)
