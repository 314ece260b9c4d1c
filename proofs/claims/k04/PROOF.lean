import PyProof.Rows.All
import Wide.All
import OpenK.AllK
import Wide.FinOn
import HandS.ForMost
import HandS.Wide
import HandS.Gcd
import HandS.IsInst
import HandS.TupAny
import HandS.SortInts
import HandS.Style
import HandS.Codes
import HandS.Walk
import HandS.RaiseMore
import HandS.TupMul
import HandS.WideBits
import HandS.Zip
import KE.KSortTupUse
import KE.KDictCopyH
import HandS.More
import KE.KDictPairs
import PyProof.Rows.StrMeet
import PySem.Challenge.RW_dustwithin_k04_names_with_endless_ways
set_option Elab.async false
set_option maxRecDepth 100000
namespace My
open PySem PySem.Spec PyProof.Rows L2

/-! ### sorted(t), t a tuple of ints -/
section
variable {prog : Program} {w : World} {A : Around} {E : Value → Shared → Prop} {s : Shared}
theorem gather_tup {t : Addr} {us : List Value} {Q : List Value → Shared → Prop} (ht : IsTup s.heap t us.toArray) (hz : us.length ≤ sizeLine)
    (q : Q us { s with heap := (s.heap.push (seqObj "list" #[] 0)).update s.heap.objs.size (Obj.mapSeq (· ++ us.toArray)) }) : wpAny (model prog w) A (collect (.ref t)) Q E s := by
  obtain ⟨ob, hob, hcl, m, hdat⟩ := ht
  unfold collect
  refine wpAny_bind (wpAny_runValue (codeAny_builtin entry_proto_collect' ?_))
  show wpAny _ _ (do again (.builtin "list.__iadd__" ⟨[← newList [], .ref t], []⟩)) _ _ s
  refine wpAny_bind (wpAny_newList (wpAny_pure ⟨Code.quiet_builtin _ (by decide +kernel), codeAny_builtin entry_list_iadd' ?_⟩))
  show wpAny _ _ (Builtin.List.listExtendWith (.ref s.heap.objs.size) (.ref t) (.ref s.heap.objs.size)) _ _ { s with heap := s.heap.push (seqObj "list" #[] 0) }
  unfold Builtin.List.listExtendWith
  have hob1 : (s.heap.push (seqObj "list" #[] 0)).get? t = some ob := Heap.get?_push_of_some _ hob
  have e2 : (Value.type "tuple" == Value.type "tuple") = true := by rfl
  refine wpAny_bind (wpAny_typeOf (T := "tuple") ⟨ob, hob1, hcl⟩ ?_); rw [if_pos (by rw [e2]; simp)]
  refine wpAny_bind (listItems_at hob1 hdat ?_); refine wpAny_bind (listItems_at (n := 0) (xs := #[]) (Heap.get?_push_size _ rfl) rfl ?_); rw [if_neg (by simp)]
  refine wpAny_bind (listUpdate_at (n := 0) (xs := #[]) (Heap.get?_push_size _ rfl) rfl ?_ (Nat.zero_le _) (by show (#[] ++ us.toArray).size ≤ sizeLine + 1; simp only [Array.size_append, List.size_toArray, List.length_nil]; omega))
  refine wpAny_pure ?_; show wpAny (model prog w) A (do
      let ob ← load s.heap.objs.size
      match ob.data with
      | .seq xs _ => pure xs.toList
      | _ => unsupported "internal:collect") Q E { s with heap := (s.heap.push (seqObj "list" #[] 0)).update s.heap.objs.size (Obj.mapSeq (· ++ us.toArray)) }
  refine wpAny_bind (wpAny_load (get?_update_seq (Heap.get?_push_size _ rfl) _) ?_)
  show wpAny _ _ (pure ((#[] : Array Value) ++ us.toArray).toList) Q E _
  rw [show ((#[] : Array Value) ++ us.toArray).toList = us by simp]; exact wpAny_pure q
theorem sorted_tup {t : Addr} {us : List Value} {ms : List Int} {Q : Value → Shared → Prop} (ht : IsTup s.heap t us.toArray) (hI : IntsAre us ms) (h64 : us.length < 64)
    (q : ∀ (out : Array Value) (ms' : List Int), IntsAre out.toList ms' → ms'.Perm ms → ms'.Pairwise (· ≤ ·) → Q (.ref (s.heap.objs.size + 1)) { s with heap := sortedAll s.heap us out }) :
    wpAny (model prog w) A (call (.builtin "sorted") [.ref t]) Q E s := by
  refine Calls.call_function_entry kind_sorted plain_sorted entry_sorted (args_sorted1 _) ?_; unfold Builtin.«sorted»
  refine wpAny_bind (m := checkCount "sorted" 1 1 _) (wpAny_pure ?_)
  refine wpAny_bind (gather_tup ht (small64 h64) ?_); refine wpAny_bind (wpAny_newList ?_ (small64 h64))
  have k1 : ((s.heap.push (seqObj "list" #[] 0)).update s.heap.objs.size (Obj.mapSeq (· ++ us.toArray))).objs.size = s.heap.objs.size + 1 := by rw [Heap.size_update, size_push']
  have k2 : (((s.heap.push (seqObj "list" #[] 0)).update s.heap.objs.size (Obj.mapSeq (· ++ us.toArray))).push (seqObj "list" us.toArray 0)).get? (s.heap.objs.size + 1) = some (seqObj "list" us.toArray 0) := by rw [← k1]; exact Heap.get?_push_size _ rfl
  show wpAny _ _ _ _ _ { s with heap := ((s.heap.push (seqObj "list" #[] 0)).update s.heap.objs.size (Obj.mapSeq (· ++ us.toArray))).push (seqObj "list" us.toArray 0) }
  rw [k1]
  refine wpAny_bind (wpAny_holding (wpAny_call_entry slot_list_sort ⟨_, k2, rfl⟩ entry_list_sort (list_sort_tree k2 hI h64 fun out ms' a1 a2 a3 => ⟨_, rfl, ?_⟩) (args_list_sort _)))
  exact wpAny_pure ⟨_, rfl, q out ms' a1 a2 a3⟩
end
section
variable {X : Cx}
theorem cr_sortedTup : CallR X (.builtin "sorted") (fun vs H Q => ∃ (a : Addr) (ms : List Int), vs = [V.ref a] ∧ SqT X.K H a (ms.map V.int) ∧ ms.length < 64 ∧
    ∀ (ms' : List Int) (p : Addr), ms'.Perm ms → ms'.Pairwise (· ≤ ·) → H p = none → Q (.ref p) (upd H p (.lst (ms'.map V.int)))) := by
  intro pins s σ H vs us Q I r h
  obtain ⟨a, ms, rfl, hs, h64, q⟩ := h
  obtain ⟨its, rv, hl, _⟩ := I.tuple hs
  rw [Vals.ref1 r]
  have hi := rv.ints
  refine sorted_tup hl hi (by rw [hi.length]; exact h64) fun out ms' h1 h2 h3 => ?_
  obtain ⟨ep, he⟩ := PyProof.Rows.sortedAll_at s.heap its out
  have hlen : (ms'.map V.int).length ≤ sizeLine := by rw [List.length_map, h2.length_eq]; exact small64 h64
  exact ⟨.ref _, upd H (s.heap.objs.size + 1) (.lst (ms'.map V.int)), I.laid (t' := s.toks) (fun _ _ => sortedAll_old) (Nat.le_succ _) ⟨hlen, out.toList, ep, vals_of_ints h1, he⟩, rfl, q ms' _ h2 h3 (I.hok.fresh (Nat.le_succ _))⟩
end

/-! ### data that stands still: G is a part of the heap that nothing writes -/
mutual
inductive Dq (K : PySem.W.Frag) (G : Hp) : V → PyData → Prop
  | non : Dq K G .non .none
  | bl (b : Bool) : Dq K G (.bl b) (.bool b)
  | int (i : Int) : Dq K G (.int i) (.int i)
  | str (x : Str) : Dq K G (.str x) (.str x)
  | lst {a : Addr} {xs : List V} {ds : List PyData} : G a = some (.lst xs) → DqAll K G xs ds → Dq K G (.ref a) (.list ds)
  | tup {a : Addr} {xs : List V} {ds : List PyData} : G a = some (.tup xs) → DqAll K G xs ds → Dq K G (.ref a) (.tuple ds)
  | dct {a : Addr} {kvs : List (Key × V)} {ds : List (PyData × PyData)} : G a = some (.dK kvs) → DqAll K G (kvs.map fun kv => kV kv.1) (ds.map (·.1)) → DqAll K G (kvs.map (·.2)) (ds.map (·.2)) → Dq K G (.ref a) (.dict ds)
inductive DqAll (K : PySem.W.Frag) (G : Hp) : List V → List PyData → Prop
  | nil : DqAll K G [] []
  | cons {v : V} {vs : List V} {d : PyData} {ds : List PyData} : Dq K G v d → DqAll K G vs ds → DqAll K G (v :: vs) (d :: ds)
end
section
variable {K : PySem.W.Frag} {G G' H : Hp}
mutual
theorem Dq.mono (e : Same G G') : ∀ {v : V} {d : PyData}, Dq K G v d → Dq K G' v d
  | _, _, .non => .non
  | _, _, .bl b => .bl b
  | _, _, .int i => .int i
  | _, _, .str x => .str x
  | _, _, .lst h t => .lst (e _ _ h) (DqAll.mono e t)
  | _, _, .tup h t => .tup (e _ _ h) (DqAll.mono e t)
  | _, _, .dct h t u => .dct (e _ _ h) (DqAll.mono e t) (DqAll.mono e u)
theorem DqAll.mono (e : Same G G') : ∀ {vs : List V} {ds : List PyData}, DqAll K G vs ds → DqAll K G' vs ds
  | _, _, .nil => .nil
  | _, _, .cons h t => .cons (Dq.mono e h) (DqAll.mono e t)
end
theorem DqAll.append : ∀ {vs ws : List V} {ds es : List PyData}, DqAll K G vs ds → DqAll K G ws es → DqAll K G (vs ++ ws) (ds ++ es)
  | _, _, _, _, .nil, t => t
  | _, _, _, _, .cons h r, t => .cons h (DqAll.append r t)
theorem DqAll.get : ∀ {vs : List V} {ds : List PyData} {i : Nat} {v : V}, DqAll K G vs ds → vs[i]? = some v → ∃ d, ds[i]? = some d ∧ Dq K G v d
  | _, _, _, _, .nil, e => by simp at e
  | _, _, 0, _, .cons h _, e => by simp at e; subst e; exact ⟨_, rfl, h⟩
  | _, _, i + 1, v, .cons _ t, e => by
    obtain ⟨d, h1, h2⟩ := DqAll.get (i := i) (v := v) t (by simpa using e)
    exact ⟨d, by simpa using h1, h2⟩
theorem DqAll.len : ∀ {vs : List V} {ds : List PyData}, DqAll K G vs ds → vs.length = ds.length
  | _, _, .nil => rfl
  | _, _, .cons _ t => by rw [List.length_cons, List.length_cons, DqAll.len t]
theorem DqAll.drop : ∀ {vs : List V} {ds : List PyData} (n : Nat), DqAll K G vs ds → DqAll K G (vs.drop n) (ds.drop n)
  | _, _, 0, h => h
  | _, _, _ + 1, .nil => .nil
  | _, _, n + 1, .cons _ t => DqAll.drop n t
theorem DqAll.take : ∀ {vs : List V} {ds : List PyData} (n : Nat), DqAll K G vs ds → DqAll K G (vs.take n) (ds.take n)
  | _, _, 0, _ => .nil
  | _, _, _ + 1, .nil => .nil
  | _, _, n + 1, .cons h t => .cons h (DqAll.take n t)
theorem DqAll.rev : ∀ {vs : List V} {ds : List PyData}, DqAll K G vs ds → DqAll K G vs.reverse ds.reverse
  | _, _, .nil => .nil
  | _, _, .cons h t => by
    rw [List.reverse_cons, List.reverse_cons]
    exact DqAll.append (DqAll.rev t) (.cons h .nil)
theorem dq_ints (K : PySem.W.Frag) (G : Hp) : ∀ ns : List Int, DqAll K G (ns.map V.int) (ns.map PyData.int)
  | [] => .nil
  | n :: r => .cons (.int n) (dq_ints K G r)
end
mutual
def hasList : PyData → Bool
  | .list _ => true
  | .tuple xs => hasListAll xs
  | .dict kvs => hasListKv kvs
  | _ => false
def hasListAll : List PyData → Bool
  | [] => false
  | x :: xs => hasList x || hasListAll xs
def hasListKv : List (PyData × PyData) → Bool
  | [] => false
  | (k, v) :: r => hasList k || hasList v || hasListKv r
end
theorem hasListKv_split : ∀ kvs : List (PyData × PyData), hasListKv kvs = false → hasListAll (kvs.map (·.1)) = false ∧ hasListAll (kvs.map (·.2)) = false
  | [], _ => ⟨rfl, rfl⟩
  | (k, v) :: r, h => by
    simp only [hasListKv, Bool.or_eq_false_iff] at h
    obtain ⟨a, b⟩ := hasListKv_split r h.2
    simp only [List.map_cons, hasListAll, Bool.or_eq_false_iff]
    exact ⟨⟨h.1.1, a⟩, h.1.2, b⟩
section
variable {X : Cx} {pins : List (Addr × Obj)} {σ : L2.St} {H : Hp} {s : Shared}
theorem kv_keys {P : Program} {w : World} : ∀ {kvs : List (Key × V)} {vs : List (Key × Value)} {es : List DictEntry}, KV kvs vs → Pairs (mixKind P w) es vs → Vals (kvs.map fun kv => kV kv.1) (es.map (·.key)) ∧ Vals (kvs.map (·.2)) (es.map (·.val))
  | _, _, _, .nil, .nil => ⟨.nil, .nil⟩
  | (k, v) :: _, (k', v') :: _, _ :: _, .cons ⟨h1, h2⟩ t, .cons g1 g2 g3 => by
    obtain ⟨a, b⟩ := kv_keys t g3
    refine ⟨.cons ?_ a, .cons ?_ b⟩
    · have e : k = k' := h1
      subst e
      rcases keyIs_shape (show keyIs k _ = true from g1) with ⟨i, tk, rfl, e2⟩ | ⟨x, tk, rfl, e2⟩
      · exact ⟨tk, e2⟩
      · exact ⟨tk, e2⟩
    · have e2 : (_ : DictEntry).val = v' := g2
      show RelV v (DictEntry.val _)
      rw [e2]; exact h2
mutual
theorem Dq.reads (I : Inv X pins σ H s) : ∀ (d : PyData) (v : V) (u : Value), Dq X.K H v d → RelV v u → ∃ as, Reads s.heap u d as ∧ (hasList d = false → sysModules ∉ as)
  | .none, _, _, h, r => by cases h; cases r; exact ⟨_, Reads.none, fun _ z => nomatch z⟩
  | .bool b, _, _, h, r => by cases h; cases r; exact ⟨_, Reads.bool b, fun _ z => nomatch z⟩
  | .int i, _, _, h, r => by cases h; obtain ⟨t, rfl⟩ := r; exact ⟨_, Reads.int i t, fun _ z => nomatch z⟩
  | .str x, _, _, h, r => by cases h; obtain ⟨t, rfl⟩ := r; exact ⟨_, Reads.str x t, fun _ z => nomatch z⟩
  | .list ds, _, _, h, r => by
    cases h with
    | lst hs ha =>
      cases r
      obtain ⟨_, its, n, rv, ho⟩ := I.hok _ _ hs
      obtain ⟨as, hr, _⟩ := DqAll.reads I ds _ its ha rv
      exact ⟨_, Reads.list ho rfl rfl (by simpa using hr), fun z => nomatch z⟩
  | .tuple ds, _, _, h, r => by
    cases h with
    | tup hs ha =>
      cases r
      obtain ⟨_, its, rv, o, ho, hc, n, hd⟩ := I.hok _ _ hs
      obtain ⟨as, hr, hn⟩ := DqAll.reads I ds _ its ha rv
      exact ⟨_, Reads.tuple ho hc hd (by simpa using hr), fun z => hn (by simpa only [hasList] using z)⟩
  | .dict ds, _, _, h, r => by
    cases h with
    | dct hs hk hv =>
      rename_i a kvs
      cases r
      obtain ⟨_, hm, vs, rel, o, es, ep, ho, hx, hd, _, hp, _⟩ := I.hok _ _ hs
      obtain ⟨r1, r2⟩ := kv_keys rel hp
      obtain ⟨as, q1, n1⟩ := DqAll.readsK I ds _ _ hk r1
      obtain ⟨bs, q2, n2⟩ := DqAll.readsV I ds _ _ hv r2
      refine ⟨_, Reads.dict ho hx.1 hd q1 q2, fun z => ?_⟩
      obtain ⟨z1, z2⟩ := hasListKv_split ds (by simpa only [hasList] using z)
      intro hmem
      rcases List.mem_append.mp hmem with hmem | hmem
      · rcases List.mem_cons.mp hmem with e | e
        · rw [← e] at hm; simp at hm
        · exact n1 z1 e
      · exact n2 z2 hmem
theorem DqAll.reads (I : Inv X pins σ H s) : ∀ (ds : List PyData) (vs : List V) (us : List Value), DqAll X.K H vs ds → Vals vs us → ∃ as, ReadsAll s.heap us ds as ∧ (hasListAll ds = false → sysModules ∉ as)
  | [], _, _, h, r => by cases h; cases r; exact ⟨_, ReadsAll.nil, fun _ z => nomatch z⟩
  | d :: ds, _, _, h, r => by
    cases h with
    | cons h1 h2 =>
      cases r with
      | cons r1 r2 =>
        obtain ⟨as, q1, n1⟩ := Dq.reads I d _ _ h1 r1
        obtain ⟨bs, q2, n2⟩ := DqAll.reads I ds _ _ h2 r2
        refine ⟨_, ReadsAll.cons q1 q2, fun z hm => ?_⟩
        simp only [hasListAll, Bool.or_eq_false_iff] at z
        rcases List.mem_append.mp hm with e | e
        · exact n1 z.1 e
        · exact n2 z.2 e
theorem DqAll.readsK (I : Inv X pins σ H s) : ∀ (ds : List (PyData × PyData)) (vs : List V) (us : List Value), DqAll X.K H vs (ds.map (·.1)) → Vals vs us → ∃ as, ReadsAll s.heap us (ds.map (·.1)) as ∧ (hasListAll (ds.map (·.1)) = false → sysModules ∉ as)
  | [], _, _, h, r => by cases h; cases r; exact ⟨_, ReadsAll.nil, fun _ z => nomatch z⟩
  | (d, d') :: ds, _, _, h, r => by
    cases h with
    | cons h1 h2 =>
      cases r with
      | cons r1 r2 =>
        obtain ⟨as, q1, n1⟩ := Dq.reads I d _ _ h1 r1
        obtain ⟨bs, q2, n2⟩ := DqAll.readsK I ds _ _ h2 r2
        refine ⟨_, ReadsAll.cons q1 q2, fun z hm => ?_⟩
        simp only [List.map_cons, hasListAll, Bool.or_eq_false_iff] at z
        rcases List.mem_append.mp hm with e | e
        · exact n1 z.1 e
        · exact n2 z.2 e
theorem DqAll.readsV (I : Inv X pins σ H s) : ∀ (ds : List (PyData × PyData)) (vs : List V) (us : List Value), DqAll X.K H vs (ds.map (·.2)) → Vals vs us → ∃ as, ReadsAll s.heap us (ds.map (·.2)) as ∧ (hasListAll (ds.map (·.2)) = false → sysModules ∉ as)
  | [], _, _, h, r => by cases h; cases r; exact ⟨_, ReadsAll.nil, fun _ z => nomatch z⟩
  | (d, d') :: ds, _, _, h, r => by
    cases h with
    | cons h1 h2 =>
      cases r with
      | cons r1 r2 =>
        obtain ⟨as, q1, n1⟩ := Dq.reads I d' _ _ h1 r1
        obtain ⟨bs, q2, n2⟩ := DqAll.readsV I ds _ _ h2 r2
        refine ⟨_, ReadsAll.cons q1 q2, fun z hm => ?_⟩
        simp only [List.map_cons, hasListAll, Bool.or_eq_false_iff] at z
        rcases List.mem_append.mp hm with e | e
        · exact n1 z.1 e
        · exact n2 z.2 e
end
end
end My

namespace My
open PySem PySem.Spec PyProof.Rows L2
def topS (i : Nat) : Stmt := PySem.Challenge.pw_dustwithin_k04_names_with_endless_ways.main.body.getD i (.Pass ⟨0, 0, 0, 0⟩)
abbrev sSpread : Stmt := topS 4
abbrev sOpen : Stmt := topS 5
abbrev sTake : Stmt := topS 6
/-! ### the pen -/
structure PenAt (H : Hp) (p : Addr) (t : Nat) : Prop where
  ex : ∃ (c : Addr) (cells : List Int) (at' rest : Int), H p = some (.lst [.ref c, .int at', .int rest]) ∧ H c = some (.lst (cells.map V.int)) ∧ 0 ≤ at' ∧ at' ≤ (t : Int)
theorem ne_len {H : Hp} {p c : Addr} {xs ys : List V} (h : H p = some (.lst xs)) (g : H c = some (.lst ys)) (e : xs ≠ ys) : c ≠ p := by
  intro z; subst z; rw [h] at g; cases g; exact e rfl
theorem pen_ne {H : Hp} {p c : Addr} {x : Addr} {i j : Int} {cells : List Int} (h : H p = some (.lst [.ref x, .int i, .int j])) (g : H c = some (.lst (cells.map V.int))) : c ≠ p :=
  ne_len h g (by intro z; cases cells with | nil => cases z | cons a r => cases z)
def But (p : Addr) (H H' : Hp) : Prop := ∀ b o, b ≠ p → H b = some o → H' b = some o
theorem But.of {p : Addr} {H H' : Hp} (e : Same H H') : But p H H' := fun b o _ => e b o
theorem But.trans {p : Addr} {H H1 H2 : Hp} (a : But p H H1) (b : But p H1 H2) : But p H H2 := fun c o n h => b c o n (a c o n h)
theorem But.upd {p : Addr} {H : Hp} {o : HO} : But p H (upd H p o) := fun b u n h => by rw [upd_ne n]; exact h
theorem PenAt.same {H H' : Hp} {p : Addr} {t u : Nat} (e : Same H H') (h : t ≤ u) (P : PenAt H p t) : PenAt H' p u := by
  obtain ⟨c, cells, x, y, h1, h2, h3, h4⟩ := P.ex
  exact ⟨c, cells, x, y, e _ _ h1, e _ _ h2, h3, by omega⟩
theorem Same.upd {H : Hp} {p : Addr} {o : HO} (n : H p = none) : Same H (upd H p o) := fun b u h => by rw [upd_ne (ne_of_none h n)]; exact h
structure PenC (H : Hp) (p c : Addr) (t : Nat) : Prop where
  ex : ∃ (cells : List Int) (at' rest : Int), H p = some (.lst [.ref c, .int at', .int rest]) ∧ H c = some (.lst (cells.map V.int)) ∧ 0 ≤ at' ∧ at' ≤ (t : Int)
theorem PenC.any {H : Hp} {p c : Addr} {t : Nat} (h : PenC H p c t) : PenAt H p t := by
  obtain ⟨cells, x, y, h⟩ := h.ex
  exact ⟨c, cells, x, y, h⟩
theorem PenAt.c {H : Hp} {p : Addr} {t : Nat} (h : PenAt H p t) : ∃ c, PenC H p c t := by
  obtain ⟨c, cells, x, y, h⟩ := h.ex
  exact ⟨c, cells, x, y, h⟩
theorem PenC.same {H H' : Hp} {p c : Addr} {t u : Nat} (e : Same H H') (h : t ≤ u) (P : PenC H p c t) : PenC H' p c u := by
  obtain ⟨cells, x, y, h1, h2, h3, h4⟩ := P.ex
  exact ⟨cells, x, y, e _ _ h1, e _ _ h2, h3, by omega⟩
theorem PenC.at_c {H : Hp} {p c : Addr} {t : Nat} (h : PenC H p c t) : H c ≠ none := by
  obtain ⟨cells, x, y, h1, h2, _⟩ := h.ex
  rw [h2]; exact fun z => nomatch z
theorem PenC.upd {H : Hp} {p c : Addr} {t u : Nat} (P : PenC H p c t) {q : Addr} (h1 : q ≠ p) (h2 : q ≠ c) (h : t ≤ u) (o : HO) : PenC (upd H q o) p c u := by
  obtain ⟨cells, x, y, g1, g2, g3, g4⟩ := P.ex
  exact ⟨cells, x, y, by rw [upd_ne h1.symm]; exact g1, by rw [upd_ne h2.symm]; exact g2, g3, by omega⟩
/-! ### promises -/
def spSpread : Sp := fun vs H Q _ => ∃ (c a : Int), vs = [.int c, .int a] ∧ 0 ≤ a ∧ a < 2 ^ 30 ∧ ∀ (r : Int) (H' : Hp), Same H H' → Q (.int r) H'
def spOpen (K : PySem.W.Frag) : Sp := fun vs H Q _ => ∃ (a : Addr) (ns : List Int), vs = [.ref a] ∧ SqL K H a (ns.map V.int) ∧ ns.length ≤ 63 ∧ ∀ (p : Addr) (H' : Hp), H p = none → Same H H' → PenAt H' p 0 → Q (.ref p) H'
def spTake : Sp := fun vs H Q _ => ∃ (p : Addr) (n : Int) (t : Nat), vs = [.ref p, .int n] ∧ 0 < n ∧ n.natAbs < 2 ^ 8000 ∧ PenAt H p t ∧ t < 2 ^ 29 ∧ ∀ (m : Int) (H' : Hp), 0 ≤ m → m < n → But p H H' → PenAt H' p (t + 1) → Q (.int m) H'
def spTakeC : Sp := fun vs H Q _ => ∃ (p c : Addr) (n : Int) (t : Nat), vs = [.ref p, .int n] ∧ 0 < n ∧ n.natAbs < 2 ^ 8000 ∧ PenC H p c t ∧ t < 2 ^ 29 ∧ ∀ (m : Int) (H' : Hp), 0 ≤ m → m < n → But p H H' → PenC H' p c (t + 1) → Q (.int m) H'
section
variable {P : Program} {w : World} {K : PySem.W.Frag} {mg : Str → Option Value} {base : Heap}
def primesV : List V := [.int 2147483629, .int 2147483587, .int 2147483579, .int 2147483563, .int 2147483549, .int 2147483543, .int 2147483497, .int 2147483489] ++ [.int 2147483477, .int 2147483423, .int 2147483399, .int 2147483353, .int 2147483323]
theorem prime_at {j : Int} (h0 : 0 ≤ j) (h1 : j < 13) : ∃ q : Int, atI primesV j = some (.int q) ∧ 0 < q ∧ q < 2147483648 := by
  have h : j = 0 ∨ j = 1 ∨ j = 2 ∨ j = 3 ∨ j = 4 ∨ j = 5 ∨ j = 6 ∨ j = 7 ∨ j = 8 ∨ j = 9 ∨ j = 10 ∨ j = 11 ∨ j = 12 := by omega
  rcases h with rfl | rfl | rfl | rfl | rfl | rfl | rfl | rfl | rfl | rfl | rfl | rfl | rfl <;> exact ⟨_, rfl, by decide, by decide⟩
theorem mod_at {x : Int} : 0 ≤ x % 13 ∧ x % 13 < 13 := ⟨Int.emod_nonneg _ (by decide), Int.emod_lt_of_pos _ (by decide)⟩
theorem mod_lt {x q : Int} (h : 0 < q) (h2 : q < 2147483648) : 0 ≤ x % q ∧ x % q < 2147483648 := ⟨Int.emod_nonneg _ (by omega), by have := Int.emod_lt_of_pos x h; omega⟩
theorem scSpread : FnScope ["cell", "at", "primes", "one", "two", "three"] ["cell", "at"] (defScope sSpread) := ⟨rfl, rfl, rfl, by decide +kernel, rfl, by decide +kernel, by decide +kernel⟩
theorem pow_ok {i : Int} {j : Int} (hj : j = 3 ∨ j = 5) (h0 : 0 ≤ i) (h1 : i < 2 ^ 64) : CPow i j := by
  refine ⟨by omega, by omega, ?_⟩
  omega
theorem ok_spread {f : Addr} {fd : FuncData} (F : Fun K "_law_spread" "_law_spread" sSpread f fd) : FnOk P w K mg base CX0 1 f fd ["cell", "at"] spSpread := by
  refine F.ok scSpread (fun vs H Q E h => ?_) (fun cdv A outer s H vs Q E hr h => ?_)
  · obtain ⟨c, a, rfl, _⟩ := h
    rfl
  · obtain ⟨c, a, rfl, ha0, ha1, k⟩ := h
    refine ⟨_, pss_cons (ps_if (pt_cmpR op_ge (pv 0) (pe_op op_pow pe_int pe_int) (nomark _)) (pss_one (ps_ret (pv 0))) pss_nil)
      (pss_cons (ps_set (i := 2) scSpread.nd rfl (Or.inl rfl) (pe_lst (pa_cons pe_int (pa_cons pe_int (pa_cons pe_int (pa_cons pe_int (pa_cons pe_int (pa_cons pe_int (pa_cons pe_int (pa_cons pe_int pa_nil))))))))))
      (pss_cons (ps_set (i := 2) scSpread.nd rfl (Or.inl rfl) (pe_op op_cat (pv 2) (pe_lst (pa_cons pe_int (pa_cons pe_int (pa_cons pe_int (pa_cons pe_int (pa_cons pe_int pa_nil))))))))
      (pss_cons (ps_set (i := 3) scSpread.nd rfl (Or.inl rfl) (pe_op op_mod (pe_op op_pow (pe_op op_add (pe_op op_add (pe_op op_mul (pe_op op_mod (pv 0) pe_int) (pe_op op_add (pe_op op_mul pe_int (pv 1)) pe_int)) (pe_op op_mul (pv 1) pe_int)) pe_int) pe_int)
        (pe_ix ix_list (pv 2) (pe_op op_mod (pv 1) pe_int) (fun _ _ => rfl))))
      (pss_cons (ps_set (i := 4) scSpread.nd rfl (Or.inl rfl) (pe_op op_mod (pe_op op_pow (pe_op op_add (pe_op op_add (pe_op op_mul (pv 3) (pe_op op_add (pv 1) pe_int)) (pe_op op_mod (pv 0) pe_int)) pe_int) pe_int)
        (pe_ix ix_list (pv 2) (pe_op op_mod (pe_op op_add (pv 1) pe_int) pe_int) (fun _ _ => rfl))))
      (pss_cons (ps_set (i := 5) scSpread.nd rfl (Or.inl rfl) (pe_op op_mod (pe_op op_pow (pe_op op_add (pe_op op_add (pv 4) (pe_op op_mod (pv 3) pe_int)) (pv 1)) pe_int)
        (pe_ix ix_list (pv 2) (pe_op op_mod (pe_op op_add (pv 1) pe_int) pe_int) (fun _ _ => rfl))))
      (pss_one (ps_ret (pe_op op_add (pe_op op_mul (pe_op op_add (pe_op op_mul (pv 3) pe_int) (pv 4)) pe_int) (pv 5))))))))), ?_⟩
    refine ⟨_, rfl, _, _, rfl, rfl, ⟨by decide, by decide, by decide⟩, _, _, rfl, rfl, _, rfl, ite2 (fun _ => ⟨_, rfl, k _ _ (Same.refl H)⟩) (fun _ => ?_)⟩
    -- primes
    refine ⟨by decide, fun l1 n1 => ?_⟩
    refine ⟨_, rfl, by decide, fun l2 n2 => ?_⟩
    have l21 : l1 ≠ l2 := ne_of_none upd_same n2
    refine ⟨l1, l2, _, _, rfl, rfl, (by rw [upd_ne l21]; exact upd_same), upd_same, by decide, fun l3 n3 => ?_⟩
    -- one
    have c0 := Int.emod_nonneg c (show (1000000007 : Int) ≠ 0 by decide)
    have c1 := Int.emod_lt_of_pos c (show (0 : Int) < 1000000007 by decide)
    have b0 : 0 ≤ c % 1000000007 * (2 * a + 69069) := Int.mul_nonneg c0 (by omega)
    have b1 : c % 1000000007 * (2 * a + 69069) ≤ 1000000007 * (2 * 1073741824 + 69069) := Int.mul_le_mul (by omega) (by omega) (by omega) (by decide)
    obtain ⟨q1, a1, q10, q11⟩ := prime_at (mod_at (x := a)).1 mod_at.2
    refine ⟨_, rfl, _, _, rfl, rfl, (by show (0 : Int) < 1000000007; decide), _, rfl, _, _, rfl, rfl, .inl ⟨by decide, by decide⟩, _, _, rfl, rfl, _, _, rfl, rfl, .inl ⟨by omega, by omega⟩, _, rfl, _, _, rfl, rfl, .inl ⟨by omega, by omega⟩, _, _, rfl, rfl, _, _, rfl, rfl,
      _, _, rfl, rfl, pow_ok (.inl rfl) (by omega) (by omega), _, rfl, _, rfl, _, _, rfl, rfl, (by show (0 : Int) < 13; decide), l3, primesV, _, _, rfl, rfl, SqL.of upd_same, a1, _, _, rfl, rfl, q10, ?_⟩
    dsimp only
    generalize hz : (c % 1000000007 * (2 * a + 69069) + a * 40503 + 977) ^ (3 : Int).toNat % q1 = one
    have o1 := hz ▸ mod_lt (x := (c % 1000000007 * (2 * a + 69069) + a * 40503 + 977) ^ (3 : Int).toNat) q10 q11
    -- two
    obtain ⟨q2, a2, q20, q21⟩ := prime_at (mod_at (x := a + 5)).1 mod_at.2
    have d0 := Int.emod_nonneg c (show (65537 : Int) ≠ 0 by decide)
    have d1 := Int.emod_lt_of_pos c (show (0 : Int) < 65537 by decide)
    have e0 : 0 ≤ one * (a + 3) := Int.mul_nonneg o1.1 (by omega)
    have e1 : one * (a + 3) ≤ 2147483648 * (1073741824 + 3) := Int.mul_le_mul (by omega) (by omega) (by omega) (by decide)
    refine ⟨_, rfl, _, rfl, _, _, rfl, rfl, _, _, rfl, rfl, .inl ⟨by omega, by omega⟩, _, rfl, _, _, rfl, rfl, (by show (0 : Int) < 65537; decide), _, _, rfl, rfl, _, _, rfl, rfl,
      _, _, rfl, rfl, pow_ok (.inr rfl) (by omega) (by omega), _, rfl, _, rfl, _, _, rfl, rfl, _, _, rfl, rfl, (by show (0 : Int) < 13; decide), l3, primesV, _, _, rfl, rfl, SqL.of upd_same, a2, _, _, rfl, rfl, q20, ?_⟩
    dsimp only
    generalize hy : (one * (a + 3) + c % 65537 + 5) ^ (5 : Int).toNat % q2 = two
    have o2 := hy ▸ mod_lt (x := (one * (a + 3) + c % 65537 + 5) ^ (5 : Int).toNat) q20 q21
    -- three
    obtain ⟨q3, a3, q30, q31⟩ := prime_at (mod_at (x := a + 7)).1 mod_at.2
    have g0 := Int.emod_nonneg one (show (1009 : Int) ≠ 0 by decide)
    have g1 := Int.emod_lt_of_pos one (show (0 : Int) < 1009 by decide)
    refine ⟨_, rfl, _, rfl, _, _, rfl, rfl, (by show (0 : Int) < 1009; decide), _, _, rfl, rfl, _, rfl, _, _, rfl, rfl,
      _, _, rfl, rfl, pow_ok (.inl rfl) (by omega) (by omega), _, rfl, _, rfl, _, _, rfl, rfl, _, _, rfl, rfl, (by show (0 : Int) < 13; decide), l3, primesV, _, _, rfl, rfl, SqL.of upd_same, a3, _, _, rfl, rfl, q30, ?_⟩
    refine ⟨_, rfl, _, _, rfl, rfl, .inl ⟨by omega, by omega⟩, _, rfl, _, _, rfl, rfl, _, _, rfl, rfl, .inl ⟨by omega, by omega⟩, _, rfl, _, _, rfl, rfl, ?_⟩
    exact k _ _ (((Same.upd n1).trans (Same.upd n2)).trans (Same.upd n3))

theorem scTake : FnScope ["pen", "many", "at", "cell", "found"] ["pen", "many"] (defScope sTake) := ⟨rfl, rfl, rfl, by decide +kernel, rfl, by decide +kernel, by decide +kernel⟩
theorem nat_at {xs : List Int} {i : Int} (h0 : 0 ≤ i) (h1 : i < xs.length) : ∃ v : Int, atI (xs.map V.int) i = some (.int v) := by
  obtain ⟨j, rfl⟩ : ∃ j : Nat, i = (j : Int) := ⟨i.toNat, by omega⟩
  have hj : j < xs.length := by omega
  exact ⟨xs[j], atI_nat (by rw [List.getElem?_map, List.getElem?_eq_getElem hj]; rfl)⟩
theorem mapInt_len (xs : List Int) : ((xs.map V.int).length : Int) = (xs.length : Int) := by rw [List.length_map]
theorem ok_takeC {f fS : Addr} {fd fdS : FuncData} (F : Fun K "_law_take" "_law_take" sTake f fd) (ml : mg "len" = none) (FS : Fun K "_law_spread" "_law_spread" sSpread fS fdS) (bS : Binds K fdS ["cell", "at"] []) (gS : mg "_law_spread" = some (.ref fS)) :
    FnOk P w K mg base CX0 2 f fd ["pen", "many"] spTakeC := by
  have GS : FnOk P w K mg base CX0 1 fS fdS ["cell", "at"] spSpread := ok_spread FS
  refine F.ok scTake (fun vs H Q E h => ?_) (fun cdv A outer s H vs Q E hr h => ?_)
  · obtain ⟨p, c, n, t, rfl, _⟩ := h
    rfl
  · obtain ⟨p, c, n, t, rfl, n0, nb, PA, tb, k⟩ := h
    obtain ⟨cells, a1, r1, hp, hc, a10, a11⟩ := PA.ex
    have ncp : c ≠ p := pen_ne hp hc
    refine ⟨_, C8.pss_cut (ps_if (pt_cmpR op_lt (pe_ix ix_list (pv 0) pe_int (fun _ _ => rfl)) (pv 1) (nomark _))
        (pss_cons (ps_set (i := 2) scTake.nd rfl (Or.inl rfl) (pe_ix ix_list (pv 0) pe_int (fun _ _ => rfl)))
        (pss_cons (ps_set (i := 3) scTake.nd rfl (Or.inl rfl) pe_int)
        (C8.pss_cut (ps_if (pt_cmpR op_lt (pv 2) (pe_callB call_len_seq (by rfl) ml PySem.boot_len (pa_cons (pe_ix ix_list (pv 0) pe_int (fun _ _ => rfl)) pa_nil)) (nomark _))
            (pss_one (ps_set (i := 3) scTake.nd rfl (Or.inl rfl) (pe_ix ix_list (pe_ix ix_list (pv 0) pe_int (fun _ _ => rfl)) (pv 2) (fun _ _ => rfl))))
            (pss_one (ps_if (pt_cmpR op_gt (pe_callB call_len_seq (by rfl) ml PySem.boot_len (pa_cons (pe_ix ix_list (pv 0) pe_int (fun _ _ => rfl)) pa_nil)) pe_int (nomark _))
              (pss_one (ps_set (i := 3) scTake.nd rfl (Or.inl rfl) (pe_op op_mod
                (pe_ix ix_list (pe_ix ix_list (pv 0) pe_int (fun _ _ => rfl)) (pe_op op_mod (pe_op op_add (pe_op op_mul (pv 2) pe_int) pe_int) (pe_callB call_len_seq (by rfl) ml PySem.boot_len (pa_cons (pe_ix ix_list (pv 0) pe_int (fun _ _ => rfl)) pa_nil))) (fun _ _ => rfl))
                (pe_op op_add (pe_op op_pow pe_int pe_int) (pv 2))))) pss_nil)))
        (pss_cons (ps_asg (pe_op op_add (pv 2) pe_int) (pg_sub (pv 0) pe_int set_list))
        (pss_one (ps_asg (pe_call GS hr (by rfl) gS FS.kp bS .nil pass0 (pa_cons (pv 3) (pa_cons (pv 2) pa_nil))) (pg_sub (pv 0) pe_int set_list)))))))
        pss_nil)
      (pss_cons (ps_set (i := 4) scTake.nd rfl (Or.inl rfl) (pe_op op_mod (pe_ix ix_list (pv 0) pe_int (fun _ _ => rfl)) (pv 1)))
      (pss_cons (ps_asg (pe_op op_fdivW (pe_ix ix_list (pv 0) pe_int (fun _ _ => rfl)) (pv 1)) (pg_sub (pv 0) pe_int set_list))
      (pss_one (ps_ret (pv 4))))), ?_⟩
    -- what holds behind the if
    refine ⟨fun σ H2 => ∃ (x2 x3 : Option V) (a2 r2 : Int), σ = [some (.ref p), some (.int n), x2, x3, none] ∧ H2 p = some (.lst [.ref c, .int a2, .int r2]) ∧ H2 c = some (.lst (cells.map V.int)) ∧ 0 ≤ a2 ∧ a2 ≤ (t : Int) + 1 ∧ But p H H2, ?_, ?_⟩
    · refine ⟨_, rfl, p, _, 2, .int r1, rfl, rfl, SqL.of hp, atI_nat (j := 2) rfl, _, rfl, _, _, rfl, rfl, _, rfl, ite2 (fun _ => ?_) (fun _ => ?_)⟩
      · refine ⟨_, rfl, p, _, 1, .int a1, rfl, rfl, SqL.of hp, atI_nat (j := 1) rfl, ?_⟩
        -- at, cell
        refine ⟨fun σ H2 => ∃ z : Int, σ = [some (.ref p), some (.int n), some (.int a1), some (.int z), none] ∧ H2 = H, ?_, ?_⟩
        · refine ⟨_, rfl, _, rfl, p, _, 0, .ref c, rfl, rfl, SqL.of hp, atI_nat (j := 0) rfl, c, _, rfl, .inl (SqL.of hc), _, _, rfl, rfl, _, rfl, ite2 (fun e => ?_) (fun e => ?_)⟩
          · have e1 : a1 < ((cells.map V.int).length : Int) := of_decide_eq_true e
            rw [mapInt_len] at e1
            obtain ⟨v, hv⟩ := nat_at a10 e1
            exact ⟨_, rfl, p, _, 0, .ref c, rfl, rfl, SqL.of hp, atI_nat (j := 0) rfl, _, rfl, c, _, a1, .int v, rfl, rfl, SqL.of hc, hv, v, rfl, rfl⟩
          · refine ⟨_, rfl, p, _, 0, .ref c, rfl, rfl, SqL.of hp, atI_nat (j := 0) rfl, c, _, rfl, .inl (SqL.of hc), _, _, rfl, rfl, _, rfl, ite2 (fun e2 => ?_) (fun e2 => ?_)⟩
            · have e3 : 0 < ((cells.map V.int).length : Int) := of_decide_eq_true e2
              have e4 := e3
              rw [mapInt_len] at e4
              obtain ⟨v, hv⟩ := nat_at (Int.emod_nonneg (a1 * 5 + 3) (by omega : (cells.length : Int) ≠ 0)) (Int.emod_lt_of_pos (a1 * 5 + 3) e4)
              rw [← mapInt_len] at hv
              have h17 : (0 : Int) < 10 ^ (17 : Int).toNat + a1 := by
                have : (0 : Int) < 10 ^ (17 : Int).toNat := by decide
                omega
              exact ⟨_, rfl, p, _, 0, .ref c, rfl, rfl, SqL.of hp, atI_nat (j := 0) rfl, _, rfl, _, _, rfl, rfl, .inl ⟨by omega, by omega⟩, _, _, rfl, rfl, _, rfl, p, _, 0, .ref c, rfl, rfl, SqL.of hp, atI_nat (j := 0) rfl, c, _, rfl, .inl (SqL.of hc), _, _, rfl, rfl, e3,
                c, _, _, .int v, rfl, rfl, SqL.of hc, hv, _, _, rfl, rfl, ⟨by decide, by decide, by decide⟩, _, rfl, _, _, rfl, rfl, _, _, rfl, rfl, h17, _, rfl, rfl⟩
            · exact ⟨0, rfl, rfl⟩
        · rintro σ H2 ⟨z, rfl, rfl⟩
          refine ⟨_, rfl, _, _, rfl, rfl, _, rfl, p, _, _, 1, rfl, rfl, hp, rfl, ?_⟩
          refine ⟨_, rfl, _, rfl, z, a1, rfl, a10, by omega, fun r H3 e3 => ?_⟩
          have hp3 : H3 p = some (.lst [.ref c, .int (a1 + 1), .int r1]) := e3 _ _ upd_same
          refine ⟨_, rfl, p, _, _, 2, rfl, rfl, hp3, rfl, ?_⟩
          refine ⟨_, _, a1 + 1, r, rfl, upd_same, ?_, by omega, by omega, (But.upd.trans (But.of e3)).trans But.upd⟩
          rw [upd_ne ncp]
          exact e3 _ _ (by rw [upd_ne ncp]; exact hc)
      · exact ⟨none, none, a1, r1, rfl, hp, hc, a10, by omega, fun b o _ e => e⟩
    · rintro σ H2 ⟨x2, x3, a2, r2, rfl, hp2, hc2, a20, a21, bt⟩
      refine ⟨_, rfl, p, _, 2, .int r2, rfl, rfl, SqL.of hp2, atI_nat (j := 2) rfl, _, rfl, _, _, rfl, rfl, n0, ?_⟩
      refine ⟨_, rfl, p, _, 2, .int r2, rfl, rfl, SqL.of hp2, atI_nat (j := 2) rfl, _, rfl, _, _, rfl, rfl, wide_div n0 nb (by decide) (by decide), ?_⟩
      refine ⟨_, rfl, p, _, _, 2, rfl, rfl, hp2, rfl, ?_⟩
      exact ⟨_, rfl, k _ _ (Int.emod_nonneg _ (by omega)) (Int.emod_lt_of_pos _ n0) (bt.trans But.upd) ⟨cells, a2, r2 / n, upd_same, by rw [upd_ne ncp]; exact hc2, a20, by omega⟩⟩

theorem ok_take {f fS : Addr} {fd fdS : FuncData} (F : Fun K "_law_take" "_law_take" sTake f fd) (ml : mg "len" = none) (FS : Fun K "_law_spread" "_law_spread" sSpread fS fdS) (bS : Binds K fdS ["cell", "at"] []) (gS : mg "_law_spread" = some (.ref fS)) :
    FnOk P w K mg base CX0 2 f fd ["pen", "many"] spTake := (ok_takeC F ml FS bS gS).imp fun vs H Q E h => by
  obtain ⟨p, n, t, h1, h2, h3, PA, h4, k⟩ := h
  obtain ⟨c, PC⟩ := PA.c
  exact ⟨p, c, n, t, h1, h2, h3, PC, h4, fun m H' a b d e => k m H' a b d e.any⟩
theorem scOpen : FnScope ["script", "cells", "k", "cell"] ["script"] (defScope sOpen) := ⟨rfl, rfl, rfl, by decide +kernel, rfl, by decide +kernel, by decide +kernel⟩
theorem cut_ints (ns : List Int) (lo hi : Option Int) : ∃ ms : List Int, cutV (ns.map V.int) lo hi = ms.map V.int ∧ ms = (ns.drop (HT.sIx ns.length 0 lo)).take (HT.sIx ns.length ns.length hi - HT.sIx ns.length 0 lo) := by
  refine ⟨_, ?_, rfl⟩
  unfold cutV
  rw [List.length_map, List.map_take, List.map_drop]
theorem sIx_nat (n : Nat) (d : Nat) (k : Nat) : HT.sIx n d (some (k : Int)) = min k n := by
  unfold HT.sIx
  simp only
  rw [if_neg (by omega)]
  omega
theorem cut12 (ns : List Int) : ∃ ms : List Int, cutV (ns.map V.int) none (some 12) = ms.map V.int ∧ ms.length = min 12 ns.length := by
  obtain ⟨ms, h1, h2⟩ := cut_ints ns none (some 12)
  refine ⟨ms, h1, ?_⟩
  rw [h2, List.length_take, List.length_drop]
  have a1 : HT.sIx ns.length 0 none = 0 := rfl
  have a2 : HT.sIx ns.length ns.length (some 12) = min 12 ns.length := sIx_nat _ _ 12
  rw [a1, a2]; omega
theorem cut63 (ns : List Int) : ∃ ms : List Int, cutV (ns.map V.int) (some 12) (some 63) = ms.map V.int ∧ ms.length ≤ ns.length - 12 := by
  obtain ⟨ms, h1, h2⟩ := cut_ints ns (some 12) (some 63)
  refine ⟨ms, h1, ?_⟩
  rw [h2, List.length_take, List.length_drop]
  have a1 : HT.sIx ns.length 0 (some 12) = min 12 ns.length := sIx_nat _ _ 12
  have a2 : HT.sIx ns.length ns.length (some 63) = min 63 ns.length := sIx_nat _ _ 63
  rw [a1, a2]; omega
theorem set_ints (ns : List Int) (j : Nat) (v : Int) : (ns.map V.int).set j (.int v) = (ns.set j v).map V.int := by rw [List.map_set]
theorem ok_open {f : Addr} {fd : FuncData} (F : Fun K "_law_open" "_law_open" sOpen f fd) (m1 : mg "list" = none) (m2 : mg "enumerate" = none) : FnOk P w K mg base CX0 1 f fd ["script"] (spOpen K) := by
  refine F.ok scOpen (fun vs H Q E h => ?_) (fun cdv A outer s H vs Q E hr h => ?_)
  · obtain ⟨a, ns, rfl, _⟩ := h
    rfl
  · obtain ⟨a, ns, rfl, hS, hl, k⟩ := h
    refine ⟨_, pss_cons (ps_set (i := 1) scOpen.nd rfl (Or.inl rfl) (pe_callTy call_list_of (by rfl) m1 boot_list (pa_cons (pe_slice sl_list (pv 0) po_none (po_some pe_int)) pa_nil)))
      (pss_cons (ps_for PassesOwn.never rfl (pi_enum (by rfl) m2 (pa_cons (pe_slice sl_list (pv 0) (po_some pe_int) (po_some pe_int)) pa_nil))
        (pg_tup (by rfl) (pgs_cons (pg_name (i := 2) scOpen.nd rfl (Or.inl rfl)) (pgs_cons (pg_name (i := 3) scOpen.nd rfl (Or.inl rfl)) pgs_nil)))
        (pss_one (ps_asg (pe_op op_add (pe_ix ix_list (pv 1) (pe_op op_mod (pv 2) pe_int) (fun _ _ => rfl)) (pv 3)) (pg_sub (pv 1) (pe_op op_mod (pv 2) pe_int) set_list))))
      (pss_one (ps_ret (pe_lst (pa_cons (pv 1) (pa_cons pe_int (pa_cons pe_int pa_nil))))))), ?_⟩
    obtain ⟨ms, e1, l1⟩ := cut12 ns
    obtain ⟨us, e2, l2⟩ := cut63 ns
    refine ⟨_, rfl, 12, rfl, a, _, rfl, hS, fun p1 n1 => ?_⟩
    rw [e1]
    refine ⟨p1, _, rfl, .inl (SqL.of upd_same), fun c nc => ?_⟩
    have s1 : Same H (upd (upd H p1 (.lst (ms.map V.int))) c (.lst (ms.map V.int))) := (Same.upd n1).trans (Same.upd nc)
    refine ⟨_, rfl, 12, rfl, 63, rfl, a, _, rfl, s1.seq hS, fun p2 n2 => ?_⟩
    rw [e2]
    have nc2 : c ≠ p2 := ne_of_none upd_same n2
    refine ⟨p2, us.map V.int, rfl, SqL.of upd_same, for_it (walk_enum (K := K) (a := p2) (xs := us.map V.int)) (fun i σ H2 => ∃ (x2 x3 : Option V) (cs : List Int), σ = [some (.ref a), some (.ref c), x2, x3] ∧ H2 c = some (.lst (cs.map V.int)) ∧ cs.length = ms.length ∧
        (∀ b o, b ≠ c → upd (upd (upd H p1 (.lst (ms.map V.int))) c (.lst (ms.map V.int))) p2 (.lst (us.map V.int)) b = some o → H2 b = some o)) ?_ ?_ ?_ ?_⟩
    · exact ⟨none, none, ms, rfl, by rw [upd_ne nc2]; exact upd_same, rfl, fun _ _ _ e => e⟩
    · rintro i σ H2 hi ⟨x2, x3, cs, rfl, hc, hl, hk⟩
      exact SqL.of (hk _ _ nc2.symm upd_same)
    · rintro i x σ H2 H3 hi ⟨x2, x3, cs, rfl, hc, hlc, hk⟩ ⟨T, y, z, rfl, hT, rfl, ey, ez⟩
      obtain rfl : V.int ((i : Nat) : Int) = y := Option.some.inj ey
      have hi' : i < us.length := by rw [List.length_map] at hi; exact hi
      obtain ⟨v, rfl⟩ : ∃ v, z = V.int v := by
        have ez' : (us.map V.int)[i]? = some z := ez
        rw [List.getElem?_map, List.getElem?_eq_getElem hi'] at ez'
        exact ⟨us[i], (Option.some.inj ez').symm⟩
      have m12 : ms.length = 12 := by omega
      have hcT : c ≠ T := ne_of_none hc hT
      have b0 := Int.emod_nonneg ((i : Nat) : Int) (show (12 : Int) ≠ 0 by decide)
      have b1 := Int.emod_lt_of_pos ((i : Nat) : Int) (show (0 : Int) < 12 by decide)
      obtain ⟨u, hu⟩ := nat_at (xs := cs) b0 (by omega)
      refine ⟨T, _, rfl, SqT.of upd_same, rfl, _, _, rfl, _, _, rfl, rfl, ?_⟩
      refine ⟨_, rfl, _, rfl, _, _, rfl, rfl, (by show (0 : Int) < 12; decide), c, _, _, _, rfl, rfl, SqL.of (by rw [upd_ne hcT]; exact hc), hu, _, rfl, _, _, rfl, rfl, ?_⟩
      have hj : ixN (cs.map V.int).length (((i : Nat) : Int) % 12) = some (((i : Nat) : Int) % 12).toNat := by
        unfold ixN
        rw [List.length_map, if_pos b0, if_pos (by omega)]
      refine ⟨_, rfl, _, rfl, _, _, rfl, rfl, (by show (0 : Int) < 12; decide), c, _, _, _, rfl, rfl, (by rw [upd_ne hcT]; exact hc), hj, ?_⟩
      refine ⟨_, _, cs.set (((i : Nat) : Int) % 12).toNat (u + v), rfl, by rw [upd_same, set_ints], by rw [List.length_set]; exact hlc, fun b o hb e => ?_⟩
      rw [upd_ne hb, upd_ne (ne_of_none (hk b o hb e) hT)]
      exact hk b o hb e
    · rintro σ H2 ⟨x2, x3, cs, rfl, hc, hlc, hk⟩
      refine ⟨_, rfl, (by show 3 ≤ sizeLine; decide), fun p np => ?_⟩
      have sH : Same H H2 := fun b o e => hk b o (ne_of_none (Same.upd n1 b o e) nc) ((s1.trans (Same.upd n2)) b o e)
      have ncp : c ≠ p := ne_of_none hc np
      exact k p _ (sH.free np) (sH.trans (Same.upd np)) ⟨c, cs, 0, 0, upd_same, by rw [upd_ne ncp]; exact hc, by decide, by decide⟩
end
end My

namespace My
open PySem PySem.Spec PyProof.Rows L2
/-! ### t[::-1] -/
section
variable {prog : Program} {w : World} {A : Around} {E : Value → Shared → Prop} {s : Shared}
theorem backwards (xs : Array Value) : ((List.range xs.size).filterMap fun (m : Nat) => xs[((xs.size : Int) - 1 + (m : Int) * -1).toNat]?).toArray = xs.toList.reverse.toArray := by
  have e1 : (List.range xs.size).filterMap (fun (m : Nat) => xs[((xs.size : Int) - 1 + (m : Int) * -1).toNat]?) = ((List.range xs.size).map fun k => xs.size - 1 - k).filterMap (xs[·]?) := by
    rw [List.filterMap_map]
    congr 1
    funext m
    show _ = xs[xs.size - 1 - m]?
    have : ((xs.size : Int) - 1 + (m : Int) * -1).toNat = xs.size - 1 - m := by omega
    rw [this]
  rw [e1, PySem.W.krv_range, List.filterMap_reverse, PySem.W.krv_all]
theorem getItem_back {t sl : Addr} {items : Array Value} {tk : Tok} {Q : Value → Shared → Prop} (ht : IsTup s.heap t items) (hs : s.heap.IsSliceOf sl .none .none (.int (-1) tk)) (hsz : items.size ≤ sizeLine)
    (q : Q (.ref s.heap.objs.size) { s with heap := s.heap.push { cls := .type "tuple", data := .seq items.toList.reverse.toArray } }) : wpAny (model prog w) A (getItem (.ref t) (.ref sl)) Q E s := by
  have hfit : sizeOk (.seq items.toList.reverse.toArray) := by show items.toList.reverse.toArray.size ≤ sizeLine; simpa using hsz
  obtain ⟨ob, hob, hcl, hdat⟩ := id hs
  have hT : s.TypeIs (.ref sl) "slice" := ⟨ob, hob, hcl⟩
  unfold getItem; try with_reducible refine wpAny_holding ?_
  first | refine wpAny_bind (wpAny_pure ?_) | skip
  refine wpAny_bind (wpAny_sequenceKey ht.typeIs (by decide) ?_); refine wpAny_bind (wpAny_callSpecial?_slot (name := Str.ofString "__getitem__") ht.typeIs slot_tuple_getitem (wpAny_call_entry slot_tuple_getitem ht.typeIs entry_tuple_getitem ?_ (args_tuple_getitem _ _)))
  show wpAny _ _ (Builtin.Tuple.tupleItemsOf (.ref t) >>= _) _ _ s; refine wpAny_bind (tupleItemsOf_ ht ?_); refine wpAny_bind (wpAny_typeOf hT ?_); rw [if_pos (by decide)]
  have step : ∀ {R : Int × Int × Nat → Shared → Prop}, R ((items.size : Int) - 1, -1, items.size) s → wpAny (model prog w) A.in1 (Builtin.Slice.sliceApplied (.ref sl) (pure (items.size : Int))) R E s := by
    intro R hR; unfold Builtin.Slice.sliceApplied Builtin.Slice.sliceFields
    refine wpAny_bind (wpAny_bind (wpAny_field hob hdat (x := .none) rfl (wpAny_bind (wpAny_field hob hdat (x := .none) rfl (wpAny_bind (wpAny_field hob hdat (x := .int (-1) tk) rfl (wpAny_pure ?_)))))))
    refine wpAny_bind (slicePart_int ?_); show wpAny _ _ (if ((-1 : Int) == 0) = true then _ else _) _ _ s; rw [if_neg (by decide)]
    refine wpAny_bind (PyProof.Rows.slicePart_none (wpAny_bind (PyProof.Rows.slicePart_none (wpAny_bind (wpAny_pure ?_)))))
    show wpAny _ _ (match Builtin.Slice.sliceAdjust none none (-1) (items.size : Int) with | (lo, hi) => pure (lo, (-1 : Int), Builtin.Slice.slicePlaces lo hi (-1))) _ _ s
    have e1 : Builtin.Slice.sliceAdjust none none (-1) (items.size : Int) = ((items.size : Int) - 1, -1) := rfl
    rw [e1]; show wpAny _ _ (pure ((items.size : Int) - 1, (-1 : Int), Builtin.Slice.slicePlaces ((items.size : Int) - 1) (-1) (-1))) _ _ s
    have e2 : Builtin.Slice.slicePlaces ((items.size : Int) - 1) (-1) (-1) = items.size := by
      unfold Builtin.Slice.slicePlaces
      have h1 : ¬ ((-1 : Int) > 0) := by decide
      simp only [h1, if_false]
      by_cases h : (items.size : Int) - 1 > -1
      · rw [if_pos h, show (- -1 : Int) = 1 by decide, Int.ediv_one]; omega
      · rw [if_neg h]; omega
    rw [e2]; exact wpAny_pure hR
  refine wpAny_bind (step ?_)
  show wpAny _ _ (if (((items.size : Int) - 1) == 0 && (-1 : Int) == 1 && items.size == items.size) = true then _ else _) _ _ s
  rw [if_neg (by rw [show ((-1 : Int) == 1) = false by decide, Bool.and_false, Bool.false_and]; decide), backwards]
  first
    | exact wpAny_bind (m := Builtin.Tuple.tupleExact _) (wpAny_newObj_type (wpAny_pure ⟨_, rfl, wpAny_pure q⟩) hfit)
    | exact wpAny_bind (m := Builtin.Tuple.tupleExact _) (wpAny_newObj_type (wpAny_bind (wpAny_pure (wpAny_pure ⟨_, rfl, wpAny_pure q⟩))) hfit)
    | exact wpAny_bind (wpAny_bind (m := Builtin.Tuple.tupleExact _) (wpAny_newObj_type (wpAny_pure (wpAny_pure ⟨_, rfl, wpAny_pure q⟩)) hfit))
    | exact wpAny_bind (wpAny_bind (m := Builtin.Tuple.tupleExact _) (wpAny_newObj_type (wpAny_pure ⟨_, rfl, wpAny_pure q⟩) hfit))
end
section
variable {X : Cx}
def tRevT (K : PySem.W.Frag) (te : TE) : TE := fun σ H Q => te σ H fun x H1 => ∃ a xs, x = .ref a ∧ SqT K H1 a xs ∧ ∀ p, H1 p = none → Q (.ref p) (upd H1 p (.tup xs.reverse))
theorem pe_revT {e : Expr} {te : TE} {k : Nat} {p1 p2 p3 pos : Pos} (he : PE X e te) : PE X (.Subscript e (.Slice none none (some (.UnaryOp .USub (.Constant (.int 1) k p1) p2)) p3) pos) (tRevT X.K te) := by
  refine ⟨fun pins s σ H Q I h => ?_⟩
  refine Subscript_ (thn (he.run pins s σ H _ I h) fun v s1 ⟨x, H1, I1, r1, q1⟩ => ?_)
  obtain ⟨a, xs, ex, hx, q⟩ := q1
  subst ex; cases r1
  have hst : PO X (some (.UnaryOp .USub (.Constant (.int 1) k p1) p2)) (tPart (tUn (rU fun i => .int (-i)) (tC (.int 1)))) := po_some (pe_un un_neg pe_int)
  refine wpAny_Slice (thn (po_none.run pins s1 σ H1 (fun o H2 => o = none ∧ H2 = H1) I1 ⟨rfl, rfl⟩) fun vl s2 ⟨l, H2, I2, pl, el, e2⟩ => ?_)
  subst el e2
  refine thn (po_none.run pins s2 σ H2 (fun o H3 => o = none ∧ H3 = H2) I2 ⟨rfl, rfl⟩) fun vu s3 ⟨u, H3, I3, pu, eu, e3⟩ => ?_
  subst eu e3
  refine thn (hst.run pins s3 σ H3 (fun o H4 => o = some (-1) ∧ H4 = H3) I3 ⟨1, rfl, -1, rfl, rfl, rfl⟩) fun vs s4 ⟨o, H4, I4, ps, eo, e4⟩ => ?_
  subst eo e4
  cases pl; cases pu; cases ps with
  | int i tk =>
  have J : Inv X pins σ H4 { s4 with heap := s4.heap.push { cls := .type "slice", data := .fields #[.none, .none, .int (-1) tk] } } := I4.kept (t' := s4.toks) fun b ob q => Heap.get?_push_of_some _ q
  obtain ⟨its, r, ht, hz⟩ := J.tuple hx
  have hl := r.length
  show wpAny (model X.prog X.w) X.A (subscriptTail e (.Slice none none (some (.UnaryOp .USub (.Constant (.int 1) k p1) p2)) p3) (.ref a) (.ref s4.heap.objs.size)) (EP X pins σ Q) X.xe { s4 with heap := s4.heap.push { cls := .type "slice", data := .fields #[.none, .none, .int (-1) tk] } }
  refine tail_any (ops := [.ref a, .ref s4.heap.objs.size]) ht.typeIs (slot_tuple_getitem.lookup) ?_ (by with_unfolding_all rfl)
  refine getItem_back ht (Heap.IsSliceOf.new _ .none .none (.int (-1) tk)) (by rw [List.size_toArray]; omega) ?_
  refine ⟨.ref _, _, J.laid (t' := s4.toks) (o := .tup xs.reverse) (fun b ob q => Heap.get?_push_of_some _ q) (Nat.le_refl _) ?_, rfl, q _ (J.hok.fresh (Nat.le_refl _))⟩
  exact ⟨by rw [List.length_reverse]; exact hz, _, r.reverse, IsTup.new _ _⟩
end
/-! ### repr -/
section
variable {X : Cx}
def rRepr (K : PySem.W.Frag) : List V → Hp → VK → Prop := fun xs H Q => ∃ (v : V) (d : PyData) (G : Hp), xs = [v] ∧ Same G H ∧ Dq K G v d ∧ d.showable = true ∧ (d.hasDict = true → hasList d = false) ∧ d.depth ≤ 100 ∧ d.shown.length ≤ sizeLine ∧ Q (.str d.shown) H
theorem cr_repr (hg : X.A.guards = some []) (hu : X.A.units + 111 < cLine) : CallR X (.builtin "repr") (rRepr X.K) := by
  intro pins s σ H xs us Q I r h
  obtain ⟨v, d, G, rfl, e, h, hs, hm, hd, hz, q⟩ := h
  have h' := h.mono e
  have key : ∀ a : Addr, us = [.ref a] → RelV v (.ref a) → wpAny (model X.prog X.w) X.A (call (.builtin "repr") us) (EP X pins σ Q) X.xe s := fun a ea ra => by
    subst ea
    obtain ⟨as, hr, hn⟩ := Dq.reads I d v _ h' ra
    exact repr_of_reads' hr hs (fun z => hn (hm z)) hg (by omega) (fun _ _ e => e) (fun h2 u tk hk => ⟨.str _, H, I.kept hk, ⟨_, rfl⟩, q⟩) hz
  cases r with
  | cons r0 rr =>
    cases rr
    cases h with
    | non => cases r0; exact PySem.P.repr_of_none ⟨.str _, H, I.tok _, ⟨_, rfl⟩, q⟩
    | bl b => cases r0; exact PySem.P.repr_of_bool ⟨.str _, H, I.tok _, ⟨_, rfl⟩, q⟩
    | int i =>
      obtain ⟨t, rfl⟩ := r0
      exact PySem.P.repr_of_int (by simpa [PyData.showable] using hs) ⟨.str _, H, I.tok _, ⟨_, rfl⟩, q⟩
    | str x =>
      obtain ⟨t, rfl⟩ := r0
      exact PySem.P.repr_of_str ⟨.str _, H, I.tok _, ⟨_, rfl⟩, q⟩ hz
    | lst _ _ => cases r0; exact key _ rfl rfl
    | tup _ _ => cases r0; exact key _ rfl rfl
    | dct _ _ _ => cases r0; exact key _ rfl rfl
end
/-! ### data made by an expression -/
structure Nw (G H G' H' : Hp) : Prop where
  gg : Same G G'
  gh : Same G' H'
  hh : Same H H'
  old : ∀ b, H b ≠ none → G' b = G b
theorem Nw.refl {G H : Hp} (e : Same G H) : Nw G H G H := ⟨Same.refl _, e, Same.refl _, fun _ _ => rfl⟩
theorem Nw.trans {G H G1 H1 G2 H2 : Hp} (a : Nw G H G1 H1) (b : Nw G1 H1 G2 H2) : Nw G H G2 H2 := by
  refine ⟨a.gg.trans b.gg, b.gh, a.hh.trans b.hh, fun c h => ?_⟩
  have h1 : H1 c ≠ none := by
    cases q : H c with
    | none => exact absurd q h
    | some o => rw [a.hh c o q]; exact fun z => nomatch z
  rw [b.old c h1, a.old c h]
theorem Nw.mk1 {G H : Hp} (e : Same G H) {p : Addr} (n : H p = none) (o : HO) : Nw G H (upd G p o) (upd H p o) := by
  refine ⟨Same.upd (e.free n), fun b u h => ?_, Same.upd n, fun b h => upd_ne (fun z => h (by rw [z]; exact n))⟩
  by_cases hb : b = p
  · subst hb; rw [upd_same] at h ⊢; exact h
  · rw [upd_ne hb] at h ⊢; exact e b u h
theorem PE.imp {X : Cx} {e : Expr} {t t' : TE} (h : PE X e t) (i : ∀ σ H Q, t' σ H Q → t σ H Q) : PE X e t' := ⟨fun pins s σ H Q I q => h.run pins s σ H Q I (i σ H Q q)⟩
theorem PA.imp {X : Cx} {es : List Expr} {t t' : TA} (h : PA X es t) (i : ∀ σ H Q, t' σ H Q → t σ H Q) : PA X es t' := ⟨fun pos pins s σ H Q I q => h.run pos pins s σ H Q I (i σ H Q q)⟩
def tDc (K : PySem.W.Frag) (d : PyData) : TE := fun _ H Q => ∃ G, Same G H ∧ ∀ v G' H', Nw G H G' H' → Dq K G' v d → Q v H'
def tDcs (K : PySem.W.Frag) (ds : List PyData) : TA := fun _ H Q => ∃ G, Same G H ∧ ∀ vs G' H', Nw G H G' H' → DqAll K G' vs ds → Q vs H'
section
variable {X : Cx} {pos : Pos}
theorem dc_int {i : Int} {j : Nat} : PE X (.Constant (.int i) j pos) (tDc X.K (.int i)) := PE.imp pe_int fun _ _ _ ⟨_, e, k⟩ => k _ _ _ (Nw.refl e) (.int i)
theorem dc_str {x : Str} {j : Nat} : PE X (.Constant (.str x) j pos) (tDc X.K (.str x)) := PE.imp pe_str fun _ _ _ ⟨_, e, k⟩ => k _ _ _ (Nw.refl e) (.str x)
theorem dc_bl {b : Bool} {j : Nat} : PE X (.Constant (.bool b) j pos) (tDc X.K (.bool b)) := PE.imp pe_bl fun _ _ _ ⟨_, e, k⟩ => k _ _ _ (Nw.refl e) (.bl b)
theorem dc_non {j : Nat} : PE X (.Constant .none j pos) (tDc X.K .none) := PE.imp pe_non fun _ _ _ ⟨_, e, k⟩ => k _ _ _ (Nw.refl e) .non
theorem dc_neg {i : Int} {j : Nat} {p : Pos} : PE X (.UnaryOp .USub (.Constant (.int i) j p) pos) (tDc X.K (.int (-i))) := PE.imp (pe_un un_neg pe_int) fun _ _ _ ⟨_, e, k⟩ => ⟨i, rfl, k _ _ _ (Nw.refl e) (.int _)⟩
theorem dc_pow {i j : Int} {a b : Nat} {p q : Pos} (h : CPow i j) : PE X (.BinOp (.Constant (.int i) a p) .Pow (.Constant (.int j) b q) pos) (tDc X.K (.int (i ^ j.toNat))) :=
  PE.imp (pe_op op_pow pe_int pe_int) fun _ _ _ ⟨_, e, k⟩ => ⟨i, j, rfl, rfl, h, k _ _ _ (Nw.refl e) (.int _)⟩
theorem das_nil : PA X [] (tDcs X.K []) := PA.imp pa_nil fun _ _ _ ⟨_, e, k⟩ => k _ _ _ (Nw.refl e) .nil
theorem das_cons {e : Expr} {es : List Expr} {d : PyData} {ds : List PyData} (h1 : PE X e (tDc X.K d)) (h2 : PA X es (tDcs X.K ds)) (hs : starEach (e :: es) X.env = (false, eval e X.env) :: starEach es X.env := by rfl) : PA X (e :: es) (tDcs X.K (d :: ds)) :=
  PA.imp (pa_cons h1 h2 hs) fun _ _ _ ⟨G, e, k⟩ => ⟨G, e, fun _ G1 _ n1 d1 => ⟨G1, n1.gh, fun _ _ _ n2 d2 => k _ _ _ (n1.trans n2) (.cons (d1.mono n2.gg) d2)⟩⟩
theorem dc_tup {es : List Expr} {ds : List PyData} {x1} (h : PA X es (tDcs X.K ds)) (hl : ds.length ≤ sizeLine) : PE X (.Tuple es x1 pos) (tDc X.K (.tuple ds)) :=
  PE.imp (pe_tup h) fun _ _ _ ⟨G, e, k⟩ => ⟨G, e, fun vs G1 H1 n1 d1 => ⟨by rw [d1.len]; exact hl, fun p np => k _ _ _ (n1.trans (Nw.mk1 n1.gh np (.tup vs))) (.tup upd_same (d1.mono (Nw.mk1 n1.gh np (.tup vs)).gg))⟩⟩
theorem dc_lst {es : List Expr} {ds : List PyData} (h : PA X es (tDcs X.K ds)) (hl : ds.length ≤ sizeLine) : PE X (.List es pos) (tDc X.K (.list ds)) :=
  PE.imp (pe_lst h) fun _ _ _ ⟨G, e, k⟩ => ⟨G, e, fun vs G1 H1 n1 d1 => ⟨by rw [d1.len]; exact hl, fun p np => k _ _ _ (n1.trans (Nw.mk1 n1.gh np (.lst vs))) (.lst upd_same (d1.mono (Nw.mk1 n1.gh np (.lst vs)).gg))⟩⟩
theorem dc_dict0 : PE X (.Dict [] [] pos) (tDc X.K (.dict [])) :=
  PE.imp pe_dnewK fun _ _ _ ⟨G, e, k⟩ => fun p np => k _ _ _ (Nw.mk1 e np (.dK [])) (.dct upd_same .nil .nil)
theorem dc_dict01 {a b c d : Nat} {p1 p2 p3 p4 : Pos} : PE X (.Dict [some (.Constant (.int 0) a p1), some (.Constant (.int 1) b p2)] [.Constant (.int 1) c p3, .Constant (.int 1) d p4] pos) (tDc X.K (.dict [(.int 0, .int 1), (.int 1, .int 1)])) := by
  refine PE.imp (pe_disp (pps_cons pe_int pe_int (pps_cons pe_int pe_int pps_nil)) rfl rfl (by simp) (by show 2 ≤ 15; decide)) fun _ H Q ⟨G, e, k⟩ => fun p np => ?_
  refine ⟨upd_same, [(.inl 0, .int 1), (.inl 1, .int 1)], rfl, by decide, ?_⟩
  rw [upd_upd]
  exact k _ _ _ (Nw.mk1 e np (.dK [(.inl 0, .int 1), (.inl 1, .int 1)])) (.dct upd_same (.cons (.int _) (.cons (.int _) .nil)) (.cons (.int _) (.cons (.int _) .nil)))
end
/-! ### types of data -/
def tyN : PyData → String
  | .none => "NoneType"
  | .bool _ => "bool"
  | .int _ => "int"
  | .str _ => "str"
  | .list _ => "list"
  | .tuple _ => "tuple"
  | .dict _ => "dict"
theorem Dq.ty {K : PySem.W.Frag} {G H : Hp} (e : Same G H) : ∀ {v : V} {d : PyData}, Dq K G v d → TyX K H v (.type (tyN d))
  | _, _, .non => .base .non
  | _, _, .bl b => .base (.bl b)
  | _, _, .int i => .base (.int i)
  | _, _, .str x => .base (.str x)
  | _, _, .lst h _ => .base (.lst (e _ _ h))
  | _, _, .tup h _ => .base (.tup (e _ _ h))
  | _, _, .dct h _ _ => .base (.dK (e _ _ h))
def isT (T : String) (d : PyData) : Bool := tyN d == T
theorem kit_int : ∀ d : PyData, kitB (tyN d) "int" = some (isT "int" d || isT "bool" d)
  | .none => by decide +kernel
  | .bool _ => (by decide +kernel : kitB "bool" "int" = some true)
  | .int _ => (by decide +kernel : kitB "int" "int" = some true)
  | .str _ => (by decide +kernel : kitB "str" "int" = some false)
  | .list _ => (by decide +kernel : kitB "list" "int" = some false)
  | .tuple _ => (by decide +kernel : kitB "tuple" "int" = some false)
  | .dict _ => (by decide +kernel : kitB "dict" "int" = some false)
theorem kit_bool : ∀ d : PyData, kitB (tyN d) "bool" = some (isT "bool" d)
  | .none => by decide +kernel
  | .bool _ => (by decide +kernel : kitB "bool" "bool" = some true)
  | .int _ => (by decide +kernel : kitB "int" "bool" = some false)
  | .str _ => (by decide +kernel : kitB "str" "bool" = some false)
  | .list _ => (by decide +kernel : kitB "list" "bool" = some false)
  | .tuple _ => (by decide +kernel : kitB "tuple" "bool" = some false)
  | .dict _ => (by decide +kernel : kitB "dict" "bool" = some false)
theorem kit_tuple : ∀ d : PyData, kitB (tyN d) "tuple" = some (isT "tuple" d)
  | .none => by decide +kernel
  | .bool _ => (by decide +kernel : kitB "bool" "tuple" = some false)
  | .int _ => (by decide +kernel : kitB "int" "tuple" = some false)
  | .str _ => (by decide +kernel : kitB "str" "tuple" = some false)
  | .list _ => (by decide +kernel : kitB "list" "tuple" = some false)
  | .tuple _ => (by decide +kernel : kitB "tuple" "tuple" = some true)
  | .dict _ => (by decide +kernel : kitB "dict" "tuple" = some false)
theorem isi_read {K : PySem.W.Frag} {G H : Hp} {v : V} {d : PyData} {T : String} {b : Bool} {Q : VK} (e : Same G H) (h : Dq K G v d) (hk : kitB (tyN d) T = some b) (q : Q (.bl b) H) : rIsi K [v, .ty T] H Q :=
  ⟨v, .ty T, .type (tyN d), .type T, b, rfl, .ty T, h.ty e, kit_ty hk, q⟩
theorem PenAt.some {H : Hp} {p : Addr} {t : Nat} (h : PenAt H p t) : H p ≠ none := by
  obtain ⟨c, cells, x, y, h1, _⟩ := h.ex
  rw [h1]; exact fun z => nomatch z
theorem pen_not {H : Hp} {p l : Addr} {t : Nat} (h : PenAt H p t) (n : H l = none) : l ≠ p := fun z => h.some (by rw [← z]; exact n)
theorem keep_ne {H H1 : Hp} (e : Same H H1) {c : Addr} (h : H c ≠ none) : H1 c ≠ none := by
  cases z : H c with
  | none => exact absurd z h
  | some o => rw [e c o z]; exact fun y => nomatch y
theorem lst_new {G H G1 H1 : Hp} (m : Nw G H G1 H1) {q : Addr} (n : H1 q = none) (o : HO) : Nw G H G1 (upd H1 q o) :=
  ⟨m.gg, m.gh.trans (Same.upd n), m.hh.trans (Same.upd n), m.old⟩
theorem same_but {G H H' : Hp} {p : Addr} (e : Same G H) (n : G p = none) (b : But p H H') : Same G H' := fun a o h => b a o (ne_of_none h n) (e a o h)
theorem ifF {c : Bool} {A B : Prop} (h : c = false) (q : B) : if c = true then A else B := by rw [h]; exact iteF q
theorem ifT {c : Bool} {A B : Prop} (h : c = true) (q : A) : if c = true then A else B := by rw [h]; exact iteT q
theorem some_ne {H : Hp} {b : Addr} {o : HO} (h : H b = some o) : H b ≠ none := by rw [h]; exact fun z => nomatch z
theorem same0 (H : Hp) : Same (fun _ => none) H := fun _ _ h => nomatch h
/-! ### the law's own call: what runs around it is known (no repr is under way) -/
def AtTop (P : Program) (w : World) (K : PySem.W.Frag) (mg : Str → Option Value) (base : Heap) (fa : Addr) (fd : FuncData) (ps : List Str) (sp : Sp) : Prop :=
  ∀ (out : List Env) (s : Shared) (H : Hp) (args : Args) (us : List Value) (vs : List V) (Q : VK) (E : XK), Env0 P w K mg base callerA out s H → BindsTo s fd args (ps.zip us) → Vals vs us → sp vs H Q E → codeAny (model P w) callerA (.call (.ref fa) args) (CR CX0 out P w H s Q E) s
theorem top_ok {P : Program} {w : World} {K : PySem.W.Frag} {mg : Str → Option Value} {base : Heap} {x qual : Str} {st : Stmt} {f : Addr} {fd : FuncData} {N ps : List Str} {k : Nat} {sp : Sp} (F : Fun K x qual st f fd) (S : FnScope N ps (defScope st)) (len : ∀ vs H Q E, sp vs H Q E → vs.length = ps.length) (hr : Room (k + 1) callerA)
    (hbody : ∀ (cdv : Value) (out : List Env) (s : Shared) (H : Hp) (vs : List V) (Q : VK) (E : XK), Room k (callerA.deeper (envOfC qual (defScope st) s.heap.objs.size f cdv)) → sp vs H Q E →
      ∃ t, PSs (cxOf CX0 P w K mg base N qual (defScope st) f cdv callerA out s H E).nox (defBody st) t ∧ t { nx := fun _ H' => Q .non H', rt := Q } (start N vs) H) : AtTop P w K mg base f fd ps sp := by
  obtain ⟨oc, od, kV, doc, pm, an, cdv, ct, osl, rfl, lk, hcd⟩ := F.ex
  intro out s H args us vs Q E e0 hb r hsp
  have hl := len _ _ _ _ hsp
  have KI : K.In s.heap := e0.mod.kin.keeps fun b o e => (e0.bs b o e).1
  have nl : s.heap.NoLimit := e0.mod.nolimit.keeps fun b o e => (e0.bs b o e).1
  have hk : ∀ y ∈ ps.zip us, (defScope st).names.lookup y.1 = some .local ∨ ((defScope st).names.lookup y.1 = some .cell ∧ ((cellsFrom (s.heap.objs.size + 1) (defScope st).names []).lookup y.1).isSome = true) := fun ⟨n, v⟩ hy => by
    rcases S.par n (List.of_mem_zip hy).1 with q | q
    · exact .inl q
    · exact .inr ⟨q, PySem.W.cellsFrom_some _ _ _ (.inl q)⟩
  refine codeAny_call_function hr.depth (KI _ _ lk) rfl S.co S.gen rfl (PySem.W.codeRec_of KI hcd) (hb _ _ _ _ ?_)
  refine wpAny_newFunctionEnv_cells S.kind hk fun env he s1 x => ?_
  subst he; refine ⟨nl.keeps x.toInCall.keep, codeAny_func ?_⟩
  obtain ⟨t, ht, hq⟩ := hbody cdv out s H vs Q E (hr.deeper _) hsp
  have I : Inv (cxOf CX0 P w K mg base N qual (defScope st) f cdv callerA out s H E) [] (start N vs) H s1 := inv_start S hr.hd e0 hl r x
  refine wpAny_mono (ht.nox.run [] s1 (start N vs) H _ I hq) (fun fl s' hs => ?_) fun e s' hs => hs
  have fin : ∀ {σ' : L2.St} {H' : Hp} {v : V} {u : Value}, Inv (cxOf CX0 P w K mg base N qual (defScope st) f cdv callerA out s H E) [] σ' H' s' → RelV v u → Q v H' → CE out P w H s Q u s' := fun {σ' H' v u} J rv q => ⟨v, H', J.os, J.bare, J.base, J.hok, rv, q⟩
  cases fl with
  | ret u => obtain ⟨v, σ', H', J, rv, q⟩ := hs; exact fin J rv q
  | next => obtain ⟨σ', H', J, q⟩ := hs; exact fin (v := V.non) (u := Value.none) J rfl q
  | brk => obtain ⟨_, _, _, q⟩ := hs; exact False.elim q
  | cont => obtain ⟨_, _, _, q⟩ := hs; exact False.elim q
theorem top_call {P : Program} {w : World} {K : PySem.W.Frag} {mg mb : Str → Option Value} {fa a : Addr} {fd : FuncData} {x : Str} {sp : Sp} {s₁ : Shared} {us : List Value} {ns : List Int}
    (KX : K.In s₁.heap) (hn : s₁.heap.Ns mainGlobals mg) (hb : s₁.heap.Ns builtinsNs mb) (hbb : ∀ x : Str, x ≠ "__name__" → mb x = bootBuiltins x) (hlim : s₁.heap.NoLimit) (hg : s₁.gens = #[])
    (ha : s₁.heap.get? a = some { cls := .type "list", data := .seq us.toArray }) (hi : IntsAre us ns) (hl : ns.length ≤ sizeLine)
    (F : ∀ base : Heap, K.In base → base.Ns mainGlobals mg → AtTop P w K mg base fa fd [x] sp) (hbind : ∀ (s : Shared) (u : Value), BindsTo s fd ⟨[u], []⟩ [(x, u)])
    (hsp : ∀ H : Hp, Only H → SqL K H a (ns.map V.int) → sp [.ref a] H (fun v _ => v = .bl true) fun _ _ _ => False) :
    codeAny (model P w) callerA (.call (.ref fa) ⟨[.ref a], []⟩) (fun r s' => r = .ok (.ret (.bool true)) ∧ OldK s₁.heap s'.heap ∧ s'.os = s₁.os ∧ AllBare s'.gens) s₁ := by
  have rv := vals_ints hi
  have lenV := hi.length
  have main : ∀ H : Hp, Only H → SqL K H a (ns.map V.int) → HOk P w H s₁.heap → (∀ b, H b ≠ none → b = a) → (H a ≠ none → K.lookup a = none) →
      codeAny (model P w) callerA (.call (.ref fa) ⟨[.ref a], []⟩) (fun r s' => r = .ok (.ret (.bool true)) ∧ OldK s₁.heap s'.heap ∧ s'.os = s₁.os ∧ AllBare s'.gens) s₁ := by
    intro H hO hS hok hA hK
    have free : ∀ b : Addr, b ≠ a → H b = none := fun b n => by
      cases q : H b with
      | none => rfl
      | some u => exact absurd (hA b (by rw [q]; simp)) n
    have noA : ∀ {b : Addr} {o : Obj} {es : Array DictEntry} {ep : Nat}, s₁.heap.get? b = some o → o.data = .dict es ep → H b = none := fun {b o es ep} e d => free b fun z => by
      rw [z, ha] at e; cases e
      exact absurd (show Data.seq us.toArray _ = Data.dict es ep from d) (fun z => nomatch z)
    have nsK : ∀ {b : Addr} {m : Str → Option Value}, s₁.heap.Ns b m → (hidT s₁.heap H).Ns b m := fun {b m} ⟨o, es, ep, e, d, r⟩ => ⟨o, es, ep, hidT_get e (noA e d), d, r⟩
    have hKb : K.In (hidT s₁.heap H) := fun b o e => hidT_get (KX b o e) (by
      cases q : H b with
      | none => rfl
      | some u =>
        have z : b = a := hA b (by rw [q]; simp)
        rw [z] at e q
        rw [hK (by rw [q]; simp)] at e; cases e)
    have hM : Mod K mg (hidT s₁.heap H) := ⟨hKb, nsK hn, ⟨mb, nsK hb, hbb⟩, let ⟨mc, h1, h2⟩ := hlim; ⟨mc, nsK h1, h2⟩⟩
    have e0 : Env0 P w K mg (hidT s₁.heap H) callerA [] s₁ H := ⟨rfl, hM, fun b o e => of_hidT e, Nat.le_of_eq (hidT_size _ _), trivial, fun b hb => (nomatch (show b ∈ ([] : List Addr) from hb)), hok, .of_eq hg⟩
    refine codeAny_mono (F _ hKb (nsK hn) [] s₁ H ⟨[.ref a], []⟩ [.ref a] [.ref a] _ _ e0 (hbind s₁ (.ref a)) (.cons rfl .nil) (hsp H hO hS)) fun r s' h => ?_
    cases r with
    | error e => exact False.elim h
    | ok fl =>
      cases fl with
      | next => exact False.elim h
      | brk => exact False.elim h
      | cont => exact False.elim h
      | ret u =>
        obtain ⟨v, H', os, bare, un, hok', r', q⟩ := h
        obtain rfl : v = .bl true := q
        obtain rfl : u = Value.bool true := r'
        refine ⟨rfl, OldK.of_keep fun b o e => ?_, os, bare⟩
        cases q : H b with
        | none => exact un.keep b o e q (fun z => nomatch (show b ∈ ([] : List Addr) from z)) (by simp)
        | some u =>
          rcases hO b with z | ⟨ob, xs, z⟩
          · rw [q] at z; cases z
          · obtain ⟨e1, _⟩ := hok b _ z
            obtain ⟨e2, _⟩ := hok' b _ (un.frzs b ob _ z)
            rw [e] at e1; cases e1; exact e2
  cases hk : K.lookup a with
  | some o =>
    have e := KX a o hk
    rw [ha] at e; cases e
    exact main (fun _ => none) (fun _ => .inl rfl) (.inr ⟨_, us.toArray, _, hk, rfl, rfl, rfl, by rw [List.size_toArray, lenV]; exact hl, by simpa using rv⟩) (fun b u z => nomatch (show (none : Option HO) = some u from z)) (fun b z => absurd rfl z) fun z => absurd rfl z
  | none =>
    refine main (fun b => if b = a then some (.frz { cls := .type "list", data := .seq us.toArray } (.lst (ns.map V.int))) else none) (fun b => ?_) (.inl (.inr ⟨{ cls := .type "list", data := .seq us.toArray }, if_pos rfl⟩)) (fun b u z => ?_) (fun b z => ?_) fun _ => hk
    · by_cases hb : b = a
      · exact .inr ⟨_, _, if_pos hb⟩
      · exact .inl (if_neg hb)
    · by_cases hb : b = a
      · have z' := (if_pos hb).symm.trans z
        cases z'; subst hb
        exact ⟨ha, by rw [List.length_map]; exact hl, us, _, rv, ha⟩
      · exact nomatch ((if_neg hb).symm.trans z)
    · by_cases hb : b = a
      · exact hb
      · exact absurd (if_neg hb) z
theorem walk_top {l : PySem.W.OpenLaw} {n : Nat} {q : Program} {loose : List Str} {XP : (Str → Option Value) → Heap → Prop} {YP : World → Heap → Prop} {d : DefRec} {K : Params → PySem.W.Frag} {sp : World → Sp} {x : Str}
    (hn : l.most = some n) (hn2 : n ≤ sizeLine) (hdf : d.params.defaults = []) (hY : ∀ (w : World) (h : Heap), YP w h → (K w.params).In h)
    (F : ∀ (w : World) (mg : Str → Option Value) (fa : Addr) (h : Heap), (K w.params).In h → h.Ns mainGlobals mg → mg d.name = some (.ref fa) →
      ∃ fd : FuncData, (∀ (s : Shared) (u : Value), BindsTo s fd ⟨[u], []⟩ [(x, u)]) ∧ ∀ base : Heap, (K w.params).In base → base.Ns mainGlobals mg → AtTop l.prog w (K w.params) mg base fa fd [x] (sp w))
    (hsp : ∀ (w : World) (H : Hp) (a : Addr) (ns : List Int), ns.length ≤ n → Only H → SqL (K w.params) H a (ns.map V.int) → sp w [.ref a] H (fun v _ => v = .bl true) fun _ _ _ => False) :
    PySem.W.WalkO q loose XP YP l.row.toRowW d [] (fun f vs => PySem.call f vs) := by
  refine Att.attach_call hn hdf fun w s₀ s₁ mg mb fa o pm cd doc a us ns G Y ho hd hcd hmg hobj hints hlen hg => ?_
  obtain ⟨fd, hb, hF⟩ := F w mg fa _ (hY w _ Y) G.T.g hmg
  exact top_call (hY w _ Y) G.T.g G.T.b G.T.builtins G.T.nolimit hg hobj hints (Nat.le_trans hlen hn2) hF hb fun H hO hS => hsp w H a ns hlen hO hS
end My

namespace My
open PySem PySem.Spec PyProof.Rows L2
/-! ### texts -/
abbrev tl (x : Str) : List Nat := x.cps.toList
theorem len_tl (x : Str) : x.length = (tl x).length := by simp [tl, Str.length]
theorem tl_ap (x y : Str) : tl (x ++ y) = tl x ++ tl y := by
  show (x ++ y).cps.toList = _
  rw [Str.cps_append, Array.toList_append]
def ofL (l : List Nat) : Str := ⟨l.toArray⟩
theorem tl_ofL (l : List Nat) : tl (ofL l) = l := rfl
theorem ofL_tl (x : Str) : ofL (tl x) = x := Str.ext' (by simp [ofL, tl])
/-- x * k, k at least 1 -/
def rMulS : R2 := fun x y H Q => ∃ (z : Str) (k : Nat), x = .str z ∧ y = .int k ∧ 1 ≤ k ∧ k ≤ 1000 ∧ z.length ≤ 1000 ∧ Q (.str (ofL (List.replicate k (tl z)).flatten)) H
theorem fold_cat : ∀ (k : Nat) (a b : Array Nat), ((List.replicate k b).foldl (· ++ ·) a).toList = a.toList ++ (List.replicate k b.toList).flatten
  | 0, a, b => by simp
  | k + 1, a, b => by
    rw [List.replicate_succ, List.foldl_cons, fold_cat k, List.replicate_succ, List.flatten_cons, Array.toList_append, List.append_assoc]
theorem op_mulS {X : Cx} : OpR X (binaryOp .Mult) rMulS := by
  intro pins s σ H x y v u Q I rx ry h
  obtain ⟨z, k, rfl, rfl, k1, k2, hz, q⟩ := h
  obtain ⟨t, rfl⟩ := rx
  obtain ⟨t', rfl⟩ := ry
  have big : ((z.length : Int)) ≤ (2 ^ 63 - 1) / (k : Int) := by
    rw [Int.le_ediv_iff_mul_le (by omega)]
    have : (z.length : Int) * (k : Int) ≤ 1000 * 1000 := Int.mul_le_mul (by omega) (by omega) (by omega) (by decide)
    omega
  have small : z.length * k ≤ 1000 * 1000 := Nat.mul_le_mul hz k2
  refine PySem.P.mul_str (by
    have h1 : ¬ ((k : Int) < -(2 ^ 63 : Int)) := by omega
    have h2 : ¬ ((k : Int) ≥ 2 ^ 63) := by omega
    rw [decide_eq_false h1, decide_eq_false h2]; rfl) (fun _ _ => by omega) (fun _ _ => ?_) ?_
  · rw [Int.toNat_natCast]
    refine decide_eq_false ?_
    have := line63
    show ¬ (z.length * k > _)
    have e : sizeLine = 16777216 := sizeLine_eq
    omega
  · rw [if_neg (by omega)]
    by_cases c : ((k : Int) == 1 || z.length == 0) = true
    · rw [if_pos c]
      have e : ofL (List.replicate k (tl z)).flatten = z := by
        rcases (Bool.or_eq_true _ _).mp c with c | c
        · have k1 : k = 1 := by have := (beq_iff_eq).mp c; omega
          subst k1
          show ofL (tl z ++ []) = z
          rw [List.append_nil, ofL_tl]
        · have z0 : tl z = [] := by
            have := (beq_iff_eq).mp c
            rw [len_tl] at this
            exact List.eq_nil_of_length_eq_zero this
          have : (List.replicate k (tl z)).flatten = [] := by rw [z0]; simp
          rw [this, ← z0, ofL_tl]
      rw [e] at q
      exact ⟨.str z, H, I, ⟨t, rfl⟩, q⟩
    · rw [if_neg c, Int.toNat_natCast]
      have e : (⟨(List.replicate k z.cps).foldl (· ++ ·) #[]⟩ : Str) = ofL (List.replicate k (tl z)).flatten := Str.ext' (Array.toList_inj.mp (by rw [fold_cat]; simp [ofL, tl]))
      rw [e]
      refine ⟨?_, .str _, H, I.tok _, ⟨_, rfl⟩, q⟩
      show (ofL (List.replicate k (tl z)).flatten).length ≤ sizeLine
      rw [len_tl, tl_ofL, List.length_flatten, List.map_replicate, List.sum_replicate_nat, ← len_tl, Nat.mul_comm, sizeLine_eq]
      omega
/-! ### letters -/
def Lets (l : List Nat) : Prop := ∀ c ∈ l, 97 ≤ c ∧ c ≤ 122
structure NameOk (x : Str) : Prop where
  lets : Lets (tl x)
  lo : 1 ≤ x.length
  hi : x.length ≤ 8
def sgS : Str := "abcdefghijklmnopqrstuvwxyz"
theorem sg_tl : tl sgS = (List.range 26).map (97 + ·) := by decide +kernel
theorem sg_len : sgS.length = 26 := by rw [len_tl, sg_tl]; decide
theorem sg_at {i : Int} (h0 : 0 ≤ i) (h1 : i < 26) : atI sgS.cps.toList i = some (97 + i.toNat) := by
  obtain ⟨j, rfl⟩ : ∃ j : Nat, i = (j : Int) := ⟨i.toNat, by omega⟩
  refine atI_nat ?_
  show (tl sgS)[j]? = _
  rw [sg_tl, List.getElem?_map, List.getElem?_range (by omega)]
  simp
def chr (i : Int) : Str := ⟨#[97 + i.toNat]⟩
theorem tl_chr (i : Int) : tl (chr i) = [97 + i.toNat] := rfl
theorem chr_len (i : Int) : (chr i).length = 1 := rfl
theorem lets_chr {i : Int} (h0 : 0 ≤ i) (h1 : i < 26) : Lets (tl (chr i)) := fun c hc => by
  rw [tl_chr] at hc
  have := List.mem_singleton.mp hc
  omega
theorem flat1 (m c : Nat) : (List.replicate m [c]).flatten = List.replicate m c := by
  induction m with
  | zero => rfl
  | succ n ih => rw [List.replicate_succ, List.flatten_cons, ih, List.replicate_succ]; rfl
def repC (m : Nat) (i : Int) : Str := ofL (List.replicate m (tl (chr i))).flatten
theorem tl_repC (m : Nat) (i : Int) : tl (repC m i) = List.replicate m (97 + i.toNat) := by
  show (List.replicate m [97 + i.toNat]).flatten = _
  exact flat1 m _
theorem repC_ok {m : Nat} {i : Int} (h0 : 0 ≤ i) (h1 : i < 26) (m1 : 1 ≤ m) (m2 : m ≤ 8) : NameOk (repC m i) := by
  refine ⟨fun c hc => ?_, ?_, ?_⟩
  · rw [tl_repC] at hc
    have := (List.mem_replicate.mp hc).2
    omega
  · rw [len_tl, tl_repC, List.length_replicate]; exact m1
  · rw [len_tl, tl_repC, List.length_replicate]; exact m2
theorem repC_inj {m n : Nat} {i j : Int} (m1 : 1 ≤ m) (h0 : 0 ≤ i) (h1 : 0 ≤ j) (h : repC m i = repC n j) : m = n ∧ i = j := by
  have e : List.replicate m (97 + i.toNat) = List.replicate n (97 + j.toNat) := by rw [← tl_repC, ← tl_repC, h]
  have l := congrArg List.length e
  rw [List.length_replicate, List.length_replicate] at l
  subst l
  refine ⟨rfl, ?_⟩
  have z : (97 + i.toNat) ∈ List.replicate m (97 + j.toNat) := by rw [← e]; exact List.mem_replicate.mpr ⟨by omega, rfl⟩
  have := (List.mem_replicate.mp z).2
  omega
def mid (x : Str) (a : Nat) (i : Int) : Str := cutS x none (some (a : Int)) ++ chr i ++ cutS x (some (a : Int)) none
theorem tl_cut_to (x : Str) {a : Nat} (h : a ≤ x.length) : tl (cutS x none (some (a : Int))) = (tl x).take a := by
  show ((x.cps.toList.drop 0).take (HT.sIx x.length x.length (some (a : Int)) - 0)) = _
  rw [sIx_nat, Nat.min_eq_left h]; rfl
theorem tl_cut_from (x : Str) {a : Nat} (h : a ≤ x.length) : tl (cutS x (some (a : Int)) none) = (tl x).drop a := by
  show ((x.cps.toList.drop (HT.sIx x.length 0 (some (a : Int)))).take (x.length - HT.sIx x.length 0 (some (a : Int)))) = _
  rw [sIx_nat, Nat.min_eq_left h]
  refine List.take_of_length_le ?_
  rw [List.length_drop, len_tl]
  exact Nat.le_refl _
theorem tl_mid (x : Str) {a : Nat} (i : Int) (h : a ≤ x.length) : tl (mid x a i) = (tl x).take a ++ [97 + i.toNat] ++ (tl x).drop a := by
  unfold mid
  rw [tl_ap, tl_ap, tl_cut_to x h, tl_cut_from x h, tl_chr]
theorem mid_ok {x : Str} {a : Nat} {i : Int} (h : a ≤ x.length) (hx : Lets (tl x)) (hl : x.length ≤ 7) (h0 : 0 ≤ i) (h1 : i < 26) : NameOk (mid x a i) := by
  have hl' := len_tl x
  have e : (mid x a i).length = x.length + 1 := by
    rw [len_tl, tl_mid x i h, List.length_append, List.length_append, List.length_take, List.length_drop, ← hl']
    simp only [List.length_cons, List.length_nil]
    omega
  refine ⟨fun c hc => ?_, by omega, by omega⟩
  rw [tl_mid x i h] at hc
  rcases List.mem_append.mp hc with hc | hc
  · rcases List.mem_append.mp hc with hc | hc
    · exact hx c (List.mem_of_mem_take hc)
    · have := List.mem_singleton.mp hc; omega
  · exact hx c (List.mem_of_mem_drop hc)
theorem mid_inj {x : Str} {a : Nat} {i j : Int} (h : a ≤ x.length) (h0 : 0 ≤ i) (h1 : 0 ≤ j) (e : mid x a i = mid x a j) : i = j := by
  have z : (tl x).take a ++ [97 + i.toNat] ++ (tl x).drop a = (tl x).take a ++ [97 + j.toNat] ++ (tl x).drop a := by rw [← tl_mid x i h, ← tl_mid x j h, e]
  have y := List.append_cancel_left (List.append_cancel_right z)
  injection y with y _
  omega
theorem nodup_of {α : Type} {f : Nat → α} {m : Nat} (h : ∀ i j, i < j → j < m → f i ≠ f j) : ((List.range m).map f).Nodup :=
  List.pairwise_map.mpr (List.Pairwise.imp_of_mem (R := (· < ·)) (fun {i j} _ hj hlt => h i j hlt (List.mem_range.mp hj)) List.pairwise_lt_range)
def nm0 (f a : Int) (k : Nat) : Str := repC (1 + ((a + 3 * k) % 8).toNat) ((f + 5 * k) % 26)
def nm1 (f a : Int) (k : Nat) : Str := repC (1 + ((a + k) % 8).toNat) f
def nm2 (x : Str) (f : Int) (a : Nat) (k : Nat) : Str := mid x a ((f + 5 * k) % 26)
structure NamesOk (ns : List Str) (m : Nat) : Prop where
  len : ns.length = m
  nod : ns.Nodup
  ok : ∀ x ∈ ns, NameOk x
theorem names_of {f : Nat → Str} {m : Nat} (h : ∀ i j, i < j → j < m → f i ≠ f j) (ok : ∀ i, i < m → NameOk (f i)) : NamesOk ((List.range m).map f) m :=
  ⟨by simp, nodup_of h, fun x hx => by
    obtain ⟨i, hi, rfl⟩ := List.mem_map.mp hx
    exact ok i (List.mem_range.mp hi)⟩
theorem md {x k : Int} (h : 0 < k) : 0 ≤ x % k ∧ x % k < k := ⟨Int.emod_nonneg _ (by omega), Int.emod_lt_of_pos _ h⟩
theorem names0 {f a : Int} {m : Nat} (hm : m ≤ 8) : NamesOk ((List.range m).map (nm0 f a)) m :=
  names_of (fun i j h1 h2 e => by
    have r1 := md (x := f + 5 * i) (k := 26) (by decide)
    have r2 := md (x := f + 5 * j) (k := 26) (by decide)
    have := (repC_inj (by omega) r1.1 r2.1 e).2
    omega) fun i _ => by
    have r1 := md (x := f + 5 * i) (k := 26) (by decide)
    have r2 := md (x := a + 3 * i) (k := 8) (by decide)
    exact repC_ok r1.1 r1.2 (by omega) (by omega)
theorem names1 {f a : Int} {m : Nat} (hm : m ≤ 8) (f0 : 0 ≤ f) (f1 : f < 26) : NamesOk ((List.range m).map (nm1 f a)) m :=
  names_of (fun i j h1 h2 e => by
    have r1 := md (x := a + i) (k := 8) (by decide)
    have r2 := md (x := a + j) (k := 8) (by decide)
    have := (repC_inj (by omega) f0 f0 e).1
    omega) fun i _ => by
    have r2 := md (x := a + i) (k := 8) (by decide)
    exact repC_ok f0 f1 (by omega) (by omega)
theorem names2 {x : Str} {f : Int} {a m : Nat} (hm : m ≤ 8) (h : a ≤ x.length) (hx : Lets (tl x)) (hl : x.length ≤ 7) : NamesOk ((List.range m).map (nm2 x f a)) m :=
  names_of (fun i j h1 h2 e => by
    have r1 := md (x := f + 5 * i) (k := 26) (by decide)
    have r2 := md (x := f + 5 * j) (k := 26) (by decide)
    have := mid_inj h r1.1 r2.1 e
    omega) fun i _ => by
    have r1 := md (x := f + 5 * i) (k := 26) (by decide)
    exact mid_ok h hx hl r1.1 r1.2
/-! ### joined -/
theorem join_nil (ys : List Str) : tl (Txt.join "" ys) = (ys.map tl).flatten := by
  show tl (Builtin.Str.glued (Str.ofString "") ys) = _
  rw [StrLaws.glued_eq_join]
  have e0 : tl (Str.ofString "") = [] := by decide +kernel
  have key : ∀ zs : List Str, tl (Str.join (Str.ofString "") zs) = (zs.map tl).flatten := by
    intro zs
    induction zs with
    | nil => rfl
    | cons x r ih =>
      cases r with
      | nil => show tl x = _; simp
      | cons y r =>
        show tl (x ++ Str.ofString "" ++ Str.join (Str.ofString "") (y :: r)) = _
        rw [tl_ap, tl_ap, e0, List.append_nil, ih]; rfl
  exact key ys
theorem join_chrs {cs : List Int} (h : ∀ c ∈ cs, 0 ≤ c ∧ c < 26) : Lets (tl (Txt.join "" (cs.map chr))) ∧ (Txt.join "" (cs.map chr)).length = cs.length := by
  have e : tl (Txt.join "" (cs.map chr)) = cs.map fun c => 97 + c.toNat := by
    rw [join_nil, List.map_map]
    clear h
    induction cs with
    | nil => rfl
    | cons c r ih => rw [List.map_cons, List.flatten_cons, ih]; rfl
  refine ⟨fun c hc => ?_, by rw [len_tl, e, List.length_map]⟩
  rw [e] at hc
  obtain ⟨d, hd, rfl⟩ := List.mem_map.mp hc
  have := h d hd
  omega
end My

namespace My
open PySem PySem.Spec PyProof.Rows L2
abbrev sNames : Stmt := topS 8
def spNames : Sp := fun vs H Q _ => ∃ (p pc : Addr) (m t : Nat), vs = [.ref p, .int m] ∧ m ≤ 8 ∧ PenC H p pc t ∧ t + 20 < 2 ^ 29 ∧
  ∀ (l : Addr) (ns : List Str) (H' : Hp), NamesOk ns m → H l = none → But p H H' → PenC H' p pc (t + 11) → H' l = some (.lst (ns.map V.str)) → Q (.ref l) H'
structure TxN (mg : Str → Option Value) : Prop where
  len : mg "len" = none
  range : mg "range" = none
section
variable {P : Program} {w : World} {K : PySem.W.Frag} {mg : Str → Option Value} {base : Heap}
theorem scNames : FnScope ["pen", "many", "signs", "stem", "at", "first", "way", "k"] ["pen", "many"] (defScope sNames) := ⟨rfl, rfl, rfl, by decide +kernel, rfl, by decide +kernel, by decide +kernel⟩
theorem small_nat {k : Nat} (h : k ≤ 1000) : (k : Int).natAbs < 2 ^ 8000 := Nat.lt_of_le_of_lt (show (k : Int).natAbs ≤ 1000 by omega) (by decide)
theorem small_int {k : Int} (h0 : 0 ≤ k) (h : k ≤ 1000) : k.natAbs < 2 ^ 8000 := Nat.lt_of_le_of_lt (show k.natAbs ≤ 1000 by omega) (by decide)
theorem map_snoc (f : Nat → Str) (i : Nat) : (((List.range i).map f).map V.str) ++ [V.str (f i)] = ((List.range (i + 1)).map f).map V.str := by
  rw [List.range_succ, List.map_append, List.map_append]; rfl
theorem ok_names {f fT : Addr} {fd fdT : FuncData} (F : Fun K "_law_names" "_law_names" sNames f fd) (T : TxN mg)
    (FT : Fun K "_law_take" "_law_take" sTake fT fdT) (GT : FnOk P w K mg base CX0 2 fT fdT ["pen", "many"] spTakeC) (bT : Binds K fdT ["pen", "many"] []) (gT : mg "_law_take" = some (.ref fT)) :
    FnOk P w K mg base CX0 3 f fd ["pen", "many"] spNames := by
  refine F.ok scNames (fun vs H Q E h => ?_) (fun cdv A outer s H vs Q E hr h => ?_)
  · obtain ⟨p, pc, m, t, rfl, _⟩ := h
    rfl
  · obtain ⟨p, pc, m, t, rfl, hm, PC, ht, k⟩ := h
    have hr2 := hr
    refine ⟨_, (pss_cons (ps_set (i := 2) scNames.nd rfl (Or.inr rfl) pe_str)
      (pss_cons (ps_set (i := 3) scNames.nd rfl (Or.inr rfl) (pe_bm PySem.F.plainAttrs_str PySem.F.slot_str_join PySem.F.type_str_join mt_join pe_str (pa_cons (pe_lc (own := [("k", 7)]) (g := gName 7) (tt := tYes) rfl scNames.nd (pi_range1 (by rfl) T.range (pa_cons (pe_call GT hr2 (by rfl) gT FT.kp bT .nil pass0 (pa_cons (pv 0) (pa_cons pe_int pa_nil))) pa_nil)) (blkOk_by (N := ["pen", "many", "signs", "stem", "at", "first", "way", "k"]) (sc := defScope sNames) (by decide +kernel)) (fun _ _ _ _ _ => pg_name (i := 7) scNames.nd rfl (Or.inl rfl)) (fun _ _ _ _ _ => pts_nil) (fun _ _ _ _ _ => (pe_ix ix_str (pv 2) (pe_call GT hr2 (by rfl) gT FT.kp bT .nil pass0 (pa_cons (pv 0) (pa_cons pe_int pa_nil))) (fun _ _ => rfl)))) pa_nil)))
      (pss_cons (ps_set (i := 4) scNames.nd rfl (Or.inr rfl) (pe_call GT hr2 (by rfl) gT FT.kp bT .nil pass0 (pa_cons (pv 0) (pa_cons (pe_op op_add (pe_callB call_len_str (by rfl) T.len PySem.boot_len (pa_cons (pv 3) pa_nil)) pe_int) pa_nil))))
      (pss_cons (ps_set (i := 5) scNames.nd rfl (Or.inr rfl) (pe_call GT hr2 (by rfl) gT FT.kp bT .nil pass0 (pa_cons (pv 0) (pa_cons pe_int pa_nil))))
      (pss_cons (ps_set (i := 6) scNames.nd rfl (Or.inl rfl) (pe_call GT hr2 (by rfl) gT FT.kp bT .nil pass0 (pa_cons (pv 0) (pa_cons pe_int pa_nil))))
      (pss_cons (ps_if (pt_cmpR op_eq (pv 6) pe_int (nomark _)) (pss_one (ps_ret (pe_lc (own := [("k", 7)]) (g := gName 7) (tt := tYes) rfl scNames.nd (pi_range1 (by rfl) T.range (pa_cons (pv 1) pa_nil)) (blkOk_by (N := ["pen", "many", "signs", "stem", "at", "first", "way", "k"]) (sc := defScope sNames) (by decide +kernel)) (fun _ _ _ _ _ => pg_name (i := 7) scNames.nd rfl (Or.inl rfl)) (fun _ _ _ _ _ => pts_nil) (fun _ _ _ _ _ => (pe_op op_mulS (pe_ix ix_str (pv 2) (pe_op op_mod (pe_op op_add (pv 5) (pe_op op_mul pe_int (pv 7))) pe_int) (fun _ _ => rfl)) (pe_op op_add pe_int (pe_op op_mod (pe_op op_add (pv 4) (pe_op op_mul pe_int (pv 7))) pe_int))))))) pss_nil)
      (C8.pss_cut (ps_if (PW.pt (pw_and (pt_cmpR op_eq (pv 6) pe_int (nomark _)) (pw_and1 (pt_cmpR op_lt (pv 1) pe_int (nomark _))))) (pss_one (ps_ret (pe_lc (own := [("k", 7)]) (g := gName 7) (tt := tYes) rfl scNames.nd (pi_range1 (by rfl) T.range (pa_cons (pv 1) pa_nil)) (blkOk_by (N := ["pen", "many", "signs", "stem", "at", "first", "way", "k"]) (sc := defScope sNames) (by decide +kernel)) (fun _ _ _ _ _ => pg_name (i := 7) scNames.nd rfl (Or.inl rfl)) (fun _ _ _ _ _ => pts_nil) (fun _ _ _ _ _ => (pe_op op_mulS (pe_ix ix_str (pv 2) (pv 5) (fun _ _ => rfl)) (pe_op op_add pe_int (pe_op op_mod (pe_op op_add (pv 4) (pv 7)) pe_int))))))) pss_nil)
      (pss_one (ps_ret (pe_lc (own := [("k", 7)]) (g := gName 7) (tt := tYes) rfl scNames.nd (pi_range1 (by rfl) T.range (pa_cons (pv 1) pa_nil)) (blkOk_by (N := ["pen", "many", "signs", "stem", "at", "first", "way", "k"]) (sc := defScope sNames) (by decide +kernel)) (fun _ _ _ _ _ => pg_name (i := 7) scNames.nd rfl (Or.inl rfl)) (fun _ _ _ _ _ => pts_nil) (fun _ _ _ _ _ => (pe_op op_add_str (pe_op op_add_str (pe_slice sl_str (pv 3) po_none (po_some (pv 4))) (pe_ix ix_str (pv 2) (pe_op op_mod (pe_op op_add (pv 5) (pe_op op_mul pe_int (pv 7))) pe_int) (fun _ _ => rfl))) (pe_slice sl_str (pv 3) (po_some (pv 4)) po_none))))))))))))), ?_⟩
    refine ⟨rfl, _, rfl, p, pc, 8, t, rfl, by decide, by decide, PC, by omega, fun m1 H1 m10 m11 b1' P1 => ?_⟩
    obtain ⟨c, rfl⟩ : ∃ c : Nat, m1 = (c : Int) := ⟨m1.toNat, by omega⟩
    refine ⟨_, rfl, by omega, by omega, fun D nD => ?_⟩
    have Dp : D ≠ p := pen_not P1.any nD
    have Dc : D ≠ pc := fun z => P1.at_c (by rw [← z]; exact nD)
    rw [Int.toNat_natCast]
    refine lc_it (walk_range (lo := 0) (n := c)) (fun i H2 => PenC H2 p pc (t + 1 + i) ∧ But p H1 H2 ∧ i ≤ c ∧ ∃ l : List Int, l.length = i ∧ (∀ x ∈ l, 0 ≤ x ∧ x < 26) ∧ H2 D = some (.lst ((l.map chr).map V.str))) ⟨P1.same (Same.upd nD) (by omega), But.of (Same.upd nD), Nat.zero_le _, [], rfl, (fun x hx => nomatch hx), upd_same⟩ (fun _ _ _ _ => trivial) ?_ ?_
    · rintro i x H2 H3 hi' ⟨P2, b2', _, l, hl, hd, hD⟩ ⟨rfl, rfl⟩
      refine ⟨rfl, ?_⟩
      refine ⟨_, rfl, _, rfl, p, pc, 26, _, rfl, by decide, by decide, P2, by omega, fun z H4 z0 z1 b4' P4 => ?_⟩
      have hD4 := b4' _ _ Dp hD
      refine ⟨sgS, z, _, rfl, rfl, by rw [sg_len]; decide, sg_at z0 z1, ?_⟩
      refine ⟨_, hD4, by rw [List.length_map, List.length_map, sizeLine_eq]; omega, P4.upd Dp Dc (by omega) _, ?_, by omega, l ++ [z], by rw [List.length_append, hl]; rfl, ?_, by rw [upd_same, List.map_append, List.map_append]; rfl⟩
      · intro c' o hn hc'
        rw [upd_ne (ne_of_none hc' nD)]
        exact b4' c' o hn (b2' c' o hn hc')
      · intro x hx
        rcases List.mem_append.mp hx with hx | hx
        · exact hd x hx
        · rw [List.mem_singleton.mp hx]; exact ⟨z0, z1⟩
    · rintro H2 ⟨P2, b2', _, l, hl, hd, hD⟩
      obtain ⟨j1, j2⟩ := join_chrs hd
      refine ⟨"", D, l.map chr, rfl, rfl, .inl (SqL.of hD), ?_, ?_⟩
      · have e1 : ((l.map chr).map (·.length)).sum = l.length := by
          rw [List.map_map]
          clear hD hd hl j1 j2
          induction l with
          | nil => rfl
          | cons x r ih => rw [List.map_cons, List.sum_cons, ih]; show 1 + r.length = _; rw [List.length_cons]; omega
        have e2 : (("" : String) : Str).length = 0 := by decide
        rw [e1, e2]; omega
      generalize Txt.join "" (l.map chr) = st at j1 j2
      refine ⟨_, rfl, _, rfl, st, rfl, by rw [sizeLine_eq]; omega, _, _, rfl, rfl, p, pc, _, _, rfl, by omega, small_int (by omega) (by omega), P2, by omega, fun a H3 a0 a1 b3' P3 => ?_⟩
      obtain ⟨a, rfl⟩ : ∃ c : Nat, a = (c : Int) := ⟨a.toNat, by omega⟩
      refine ⟨_, rfl, p, pc, 26, _, rfl, by decide, by decide, P3, by omega, fun f H4 f0 f1 b4' P4 => ?_⟩
      refine ⟨_, rfl, p, pc, 3, _, rfl, by decide, by decide, P4, by omega, fun wy H5 w0 w1 b5' P5 => ?_⟩
      have bt : But p H H5 := (((b1'.trans b2').trans b3').trans b4').trans b5'
      have P5 : PenC H5 p pc (t + 11) := P5.same (Same.refl _) (by omega)
      have free : ∀ q : Addr, H5 q = none → H q = none := fun q nq => by
        cases z : H q with
        | none => rfl
        | some o =>
          by_cases hq : q = p
          · subst hq; exact absurd nq P5.any.some
          · rw [bt q o hq z] at nq; cases nq
      have fin : ∀ (g : Nat → Str) (q : Addr) (H6 : Hp), NamesOk ((List.range m).map g) m → H5 q = none → Same H5 H6 → H6 q = some (.lst (((List.range m).map g).map V.str)) → Q (.ref q) H6 := fun g q H6 ok nq s6 h6 =>
        k q _ H6 ok (free q nq) (bt.trans (But.of s6)) (P5.same s6 (Nat.le_refl _)) h6
      have lps : ∀ (g : Nat → Str) (D : Addr) (i : Nat) (H6 : Hp), H5 D = none → i < m → Same H5 H6 → H6 D = some (.lst (((List.range i).map g).map V.str)) →
          ∃ acc, H6 D = some (.lst acc) ∧ acc.length < sizeLine ∧ Same H5 (upd H6 D (.lst (acc ++ [V.str (g i)]))) ∧ (upd H6 D (.lst (acc ++ [V.str (g i)]))) D = some (.lst (((List.range (i + 1)).map g).map V.str)) := fun g D i H6 nD hi s6 hD => by
        refine ⟨_, hD, by rw [List.length_map, List.length_map, List.length_range, sizeLine_eq]; omega, fun b o hb => ?_, by rw [upd_same, map_snoc]⟩
        rw [upd_ne (ne_of_none hb nD)]
        exact s6 b o hb
      refine ⟨_, rfl, rfl, _, rfl, ite2 (fun _ => ?_) (fun _ => ?_)⟩
      · -- way 0
        refine ⟨_, rfl, _, rfl, by omega, by omega, fun D2 nD2 => ?_⟩
        rw [Int.toNat_natCast]
        refine lc_it (walk_range (lo := 0) (n := m)) (fun i H6 => Same H5 H6 ∧ H6 D2 = some (.lst (((List.range i).map (nm0 f a)).map V.str))) ⟨Same.upd nD2, upd_same⟩ (fun _ _ _ _ => trivial) ?_ (fun H6 ⟨s6, h6⟩ => fin _ D2 H6 (names0 hm) nD2 s6 h6)
        rintro i x H6 H7 hi' ⟨s6, hD6⟩ ⟨rfl, hx⟩
        replace hx : x = V.int i := hx.trans (by show V.int (0 + (i : Int)) = _; rw [Int.zero_add])
        subst hx
        refine ⟨rfl, ?_⟩
        have r1 := md (x := f + 5 * i) (k := 26) (by decide)
        have r2 := md (x := (a : Int) + 3 * i) (k := 8) (by decide)
        refine ⟨_, rfl, _, rfl, _, rfl, _, _, rfl, rfl, .inl ⟨by omega, by omega⟩, _, _, rfl, rfl, _, _, rfl, rfl, (by show (0 : Int) < 26; decide), sgS, _, _, rfl, rfl, by rw [sg_len]; decide, sg_at r1.1 r1.2, ?_⟩
        refine ⟨_, rfl, _, rfl, _, _, rfl, rfl, .inl ⟨by omega, by omega⟩, _, _, rfl, rfl, _, _, rfl, rfl, (by show (0 : Int) < 8; decide), _, _, rfl, rfl, chr ((f + 5 * i) % 26), (1 + (((a : Int) + 3 * i) % 8).toNat), rfl, by simp only [V.int.injEq]; omega, by omega, by omega, by rw [chr_len]; decide, ?_⟩
        exact lps (nm0 f a) D2 i _ nD2 hi' s6 hD6
      refine ⟨fun σ H6 => σ = [some (.ref p), some (.int m), some (.str sgS), some (.str st), some (.int a), some (.int f), some (.int wy), none] ∧ H5 = H6, ?_, ?_⟩
      · refine ⟨_, rfl, rfl, _, rfl, ite2 (fun _ => ?_) (fun _ => iteF ⟨rfl, rfl⟩)⟩
        refine ⟨_, rfl, _, _, rfl, rfl, _, rfl, ite2 (fun _ => ?_) (fun _ => ⟨rfl, rfl⟩)⟩
        refine ⟨_, rfl, _, rfl, by omega, by omega, fun D2 nD2 => ?_⟩
        rw [Int.toNat_natCast]
        refine lc_it (walk_range (lo := 0) (n := m)) (fun i H6 => Same H5 H6 ∧ H6 D2 = some (.lst (((List.range i).map (nm1 f a)).map V.str))) ⟨Same.upd nD2, upd_same⟩ (fun _ _ _ _ => trivial) ?_ (fun H6 ⟨s6, h6⟩ => fin _ D2 H6 (names1 hm f0 f1) nD2 s6 h6)
        rintro i x H6 H7 hi' ⟨s6, hD6⟩ ⟨rfl, hx⟩
        replace hx : x = V.int i := hx.trans (by show V.int (0 + (i : Int)) = _; rw [Int.zero_add])
        subst hx
        refine ⟨rfl, ?_⟩
        have r2 := md (x := (a : Int) + i) (k := 8) (by decide)
        refine ⟨_, rfl, _, rfl, sgS, _, _, rfl, rfl, by rw [sg_len]; decide, sg_at f0 f1, ?_⟩
        refine ⟨_, rfl, _, rfl, _, _, rfl, rfl, _, _, rfl, rfl, (by show (0 : Int) < 8; decide), _, _, rfl, rfl, chr f, (1 + (((a : Int) + i) % 8).toNat), rfl, by simp only [V.int.injEq]; omega, by omega, by omega, by rw [chr_len]; decide, ?_⟩
        exact lps (nm1 f a) D2 i _ nD2 hi' s6 hD6
      · rintro σ H6 ⟨rfl, rfl⟩
        refine ⟨_, rfl, _, rfl, by omega, by omega, fun D2 nD2 => ?_⟩
        rw [Int.toNat_natCast]
        have hal : a ≤ st.length := by omega
        refine lc_it (walk_range (lo := 0) (n := m)) (fun i H6 => Same H5 H6 ∧ H6 D2 = some (.lst (((List.range i).map (nm2 st f a)).map V.str))) ⟨Same.upd nD2, upd_same⟩ (fun _ _ _ _ => trivial) ?_ (fun H6 ⟨s6, h6⟩ => fin _ D2 H6 (names2 hm hal j1 (by omega)) nD2 s6 h6)
        rintro i x H6 H7 hi' ⟨s6, hD6⟩ ⟨rfl, hx⟩
        replace hx : x = V.int i := hx.trans (by show V.int (0 + (i : Int)) = _; rw [Int.zero_add])
        subst hx
        refine ⟨rfl, ?_⟩
        have r1 := md (x := f + 5 * i) (k := 26) (by decide)
        have z1 : (cutS st none (some (a : Int))).length ≤ 7 := by rw [len_tl, tl_cut_to st hal, List.length_take]; omega
        have z2 : (cutS st (some (a : Int)) none).length ≤ 7 := by rw [len_tl, tl_cut_from st hal, List.length_drop, ← len_tl]; omega
        refine ⟨_, rfl, _, rfl, _, rfl, st, rfl, by rw [sizeLine_eq]; omega, ?_⟩
        refine ⟨_, rfl, _, rfl, _, rfl, _, _, rfl, rfl, .inl ⟨by omega, by omega⟩, _, _, rfl, rfl, _, _, rfl, rfl, (by show (0 : Int) < 26; decide), sgS, _, _, rfl, rfl, by rw [sg_len]; decide, sg_at r1.1 r1.2, ?_⟩
        refine ⟨_, chr ((f + 5 * i) % 26), rfl, rfl, by rw [chr_len, sizeLine_eq]; omega, ?_⟩
        refine ⟨_, rfl, _, rfl, _, rfl, st, rfl, by rw [sizeLine_eq]; omega, ?_⟩
        refine ⟨_, _, rfl, rfl, by rw [Str.length_append, chr_len, sizeLine_eq]; omega, ?_⟩
        exact lps (nm2 st f a) D2 i _ nD2 hi' s6 hD6
end
end My

namespace My
open PySem PySem.Spec PyProof.Rows L2
/-! ### sorted(d), d a dict with keys (int, str) -/
theorem perm_lift {α β : Type} {f : α → β} {l l' : List β} (h : l.Perm l') : ∀ m : List α, l' = m.map f → ∃ m' : List α, m'.Perm m ∧ l = m'.map f := by
  induction h with
  | nil => intro m e; cases m with | nil => exact ⟨[], .refl _, rfl⟩ | cons _ _ => cases e
  | cons x _ ih =>
    intro m e
    cases m with
    | nil => cases e
    | cons a r =>
      injection e with e1 e2
      obtain ⟨m', p, q⟩ := ih r e2
      exact ⟨a :: m', p.cons a, by rw [List.map_cons, ← q, e1]⟩
  | swap x y l =>
    intro m e
    cases m with
    | nil => cases e
    | cons a r =>
      cases r with
      | nil => cases e
      | cons b r =>
        injection e with e1 e2
        injection e2 with e2 e3
        exact ⟨b :: a :: r, .swap _ _ _, by rw [List.map_cons, List.map_cons, e1, e2, e3]⟩
  | trans _ _ ih1 ih2 =>
    intro m e
    obtain ⟨m1, p1, q1⟩ := ih2 m e
    obtain ⟨m2, p2, q2⟩ := ih1 m1 q1
    exact ⟨m2, p2.trans p1, q2⟩
def pk (q : Int × Str) : List Key := [.inl q.1, .inr q.2]
def pv2 (q : Int × Str) : List V := [.int q.1, .str q.2]
theorem pk_kv (q : Int × Str) : (pk q).map kV = pv2 q := rfl
def Tp (h : Heap) (b : Addr) (q : Int × Str) : Prop := ∃ t u o n, h.get? b = some o ∧ o.cls = .type "tuple" ∧ o.data = .seq #[.int q.1 t, .str q.2 u] n
theorem Tp.keep {h h' : Heap} {b : Addr} {q : Int × Str} (k : ∀ o, h.get? b = some o → h'.get? b = some o) (x : Tp h b q) : Tp h' b q := by
  obtain ⟨t, u, o, n, ho, r⟩ := x
  exact ⟨t, u, o, n, k o ho, r⟩
theorem tups_of {h : Heap} : ∀ {zs : List (Addr × Int × Str)}, (∀ z ∈ zs, Tp h z.1 z.2) → ∃ fs, TupsOf h PyProof.Rows.G.sh1 (zs.map fun z => Value.ref z.1) fs
  | [], _ => ⟨[], .nil⟩
  | z :: zs, hz => by
    obtain ⟨fs, hf⟩ := tups_of fun y hy => hz y (List.mem_cons_of_mem _ hy)
    obtain ⟨t, u, o, n, ho, hc, hd⟩ := hz z List.mem_cons_self
    exact ⟨_, .cons ⟨z.1, o, _, n, rfl, ho, hc, hd, rfl, fun _ => ⟨_, _, rfl⟩, fun e => absurd e (by decide)⟩ hf⟩
section
variable {X : Cx} {pins : List (Addr × Obj)} {σ : L2.St} {H : Hp} {s : Shared}
theorem tp_of (I : Inv X pins σ H s) {b : Addr} {q : Int × Str} (h : H b = some (.tup (pv2 q))) : Tp s.heap b q := by
  obtain ⟨_, its, r, o, ho, hc, n, hd⟩ := I.hok b _ h
  cases r with
  | cons r1 r2 =>
    cases r2 with
    | cons r2 r3 =>
      cases r3
      obtain ⟨t, rfl⟩ := r1
      obtain ⟨u, rfl⟩ := r2
      exact ⟨t, u, o, n, ho, hc, hd⟩
theorem paired_zs {H : Hp} : ∀ {kvs : List (List Key × V)} {xs : List (List Key × Addr × Value)} {ps : List (Int × Str)}, Paired (fun (p : List Key × V) (q : List Key × Addr × Value) => p.1 = q.1 ∧ H q.2.1 = some (.tup (p.1.map kV)) ∧ RelV p.2 q.2.2) kvs xs → kvs.map (·.1) = ps.map pk →
    ∃ zs : List (Addr × Int × Str), zs.map (·.2) = ps ∧ (∀ z ∈ zs, H z.1 = some (.tup (pv2 z.2))) ∧ zs.map (fun z => Value.ref z.1) = xs.map fun q => Value.ref q.2.1
  | _, _, [], .nil, _ => ⟨[], rfl, (fun _ h => nomatch h), rfl⟩
  | _, _, _ :: _, .nil, e => nomatch e
  | _, _, [], .cons _ _, e => nomatch e
  | (k, v) :: kvs, x :: xs, q :: ps, .cons ⟨h1, h2, _⟩ t, e => by
    injection e with e1 e2
    obtain ⟨zs, g1, g2, g3⟩ := paired_zs t e2
    have e1' : k = pk q := e1
    subst e1'
    refine ⟨(x.2.1, q) :: zs, by rw [List.map_cons, g1], fun z hz => ?_, by rw [List.map_cons, List.map_cons, g3]⟩
    rcases List.mem_cons.mp hz with rfl | hz
    · exact h2
    · exact g2 z hz
def rSortP : List V → Hp → VK → Prop := fun xs H Q => ∃ (a : Addr) (kvs : List (List Key × V)) (ps : List (Int × Str)), xs = [.ref a] ∧ H a = some (.dT kvs) ∧ kvs.map (·.1) = ps.map pk ∧
    ∀ (zs : List (Addr × Int × Str)) (p : Addr), (zs.map (·.2)).Perm ps → (∀ z ∈ zs, H z.1 = some (.tup (pv2 z.2))) → H p = none → Q (.ref p) (upd H p (.lst (zs.map fun z => V.ref z.1)))
theorem vals_refs : ∀ zs : List (Addr × Int × Str), Vals (zs.map fun z => V.ref z.1) (zs.map fun z => Value.ref z.1)
  | [] => .nil
  | _ :: zs => .cons rfl (vals_refs zs)
theorem call_sortedDT (hcalm : X.calm = true) : CallR X (.builtin "sorted") rSortP := by
  intro pins s σ H xs us Q I r q
  obtain ⟨a, kvs, ps, ex, hd, hks, q⟩ := q
  subst ex
  obtain ⟨u, eu, rx⟩ := vals1 r
  subst eu
  cases rx
  obtain ⟨z, lo, xs, pr, o, es, ep, ho, hx, hdat, hes, nd⟩ := I.hok a _ hd
  obtain ⟨zs, y1, y2, y3⟩ := paired_zs pr hks
  have hlx : es.size = zs.length := by
    rw [← Array.length_toList, hes, List.length_map]
    have := congrArg List.length y3
    rw [List.length_map, List.length_map] at this
    exact this.symm
  have hlk : zs.length = kvs.length := by
    have e1 := congrArg List.length y1
    have e2 := congrArg List.length hks
    rw [List.length_map] at e1
    rw [List.length_map, List.length_map] at e2
    omega
  have h16 : es.size ≤ sizeLine := by rw [hlx, hlk]; exact z
  refine Calls.call_function_entry PyProof.Rows.kind_sorted PyProof.Rows.plain_sorted PyProof.Rows.entry_sorted (PyProof.Rows.args_sorted1 _) ?_
  unfold Builtin.«sorted»
  refine wpAny_bind (m := checkCount "sorted" 1 1 _) (wpAny_pure ?_)
  refine wpAny_bind (PySem.W.kdu_collect (A := X.A.in1) (KdlSrc.rawDict (es := es) (ep := ep) lo) (I.ok.hd hcalm) ⟨o, ho, hx, hdat⟩ h16 fun h' tk acc hk hacc => ?_)
  have hacc2 : acc.toList = zs.map fun z => Value.ref z.1 := by
    refine List.ext_getElem? fun j => ?_
    rw [y3]
    have e0 : (es.toList)[j]? = (xs.map (entryOfKey (tupleKind (mixKind X.prog X.w))))[j]? := by rw [hes]
    rw [Array.getElem?_toList, List.getElem?_map] at e0
    rw [Array.getElem?_toList, List.getElem?_map]
    cases hj : acc[j]? with
    | none =>
      have : acc.size ≤ j := Array.getElem?_eq_none_iff.mp hj
      rw [hacc.1] at this
      rw [Array.getElem?_eq_none this] at e0
      cases hxj : xs[j]? with
      | none => rfl
      | some _ => rw [hxj] at e0; cases e0
    | some v =>
      obtain ⟨hi, hv⟩ := hacc.2 j v hj
      rw [Array.getElem?_eq_getElem hi] at e0
      cases hxj : xs[j]? with
      | none => rw [hxj] at e0; cases e0
      | some w' =>
        rw [hxj] at e0
        have e1 := Option.some.inj e0
        rw [hv, e1]; rfl
  have hal : acc.toList.length = zs.length := by rw [hacc2, List.length_map]
  have I1 : Inv X pins σ H { s with heap := h', toks := tk } := I.kept hk
  refine wpAny_bind (wpAny_newList ?_ (by rw [hal, hlk]; exact z))
  have hoL : (h'.push (seqObj "list" acc.toList.toArray 0)).get? h'.objs.size = some (seqObj "list" acc.toList.toArray 0) := Heap.get?_push_size _ rfl
  show wpAny _ _ _ _ _ { s with heap := h'.push (seqObj "list" acc.toList.toArray 0), toks := tk }
  have hT : ∀ z ∈ zs, Tp (h'.push (seqObj "list" acc.toList.toArray 0)) z.1 z.2 := fun z hz => Tp.keep (fun o e => Heap.get?_push_of_some _ e) (tp_of I1 (y2 z hz))
  obtain ⟨fs, hfs⟩ := tups_of hT
  rw [← hacc2] at hfs
  refine wpAny_bind (wpAny_holding (wpAny_call_entry PyProof.Rows.slot_list_sort ⟨_, hoL, rfl⟩ PyProof.Rows.entry_list_sort
    (PyProof.Rows.G.list_sort_tups (shape := PyProof.Rows.G.sh1) (fs := fs) (s := { s with heap := h'.push (seqObj "list" acc.toList.toArray 0), toks := tk }) hoL hfs (fun v hv => ?_) (by rw [hal, hlk]; exact z) fun st' hp hs _ => ⟨_, rfl, ?_⟩)
    (PyProof.Rows.args_list_sort _)))
  · rw [hacc2] at hv
    obtain ⟨z, hz, rfl⟩ := List.mem_map.mp hv
    obtain ⟨t, u, o, n, ho, hc, hd⟩ := hT z hz
    exact ⟨_, PyProof.Rows.G.tupKeyC_of ho hc hd (PyProof.Rows.G.two_items rfl)⟩
  have hpm : ((arrOf st').map (·.2)).toList.Perm (zs.map fun z => Value.ref z.1) := by
    have e := Array.perm_iff_toList_perm.mp hp
    rw [pairsOf_toList] at e
    have e2 := e.map (·.2)
    rw [hacc2] at e2
    rw [Array.toList_map]
    refine e2.trans (List.Perm.of_eq ?_)
    rw [List.map_snd_zip (Nat.le_refl _)]
  obtain ⟨zs', g1, g2⟩ := perm_lift hpm zs rfl
  obtain ⟨e', he'⟩ := PyProof.Rows.sortedHeap_at (vs := acc.toList) (out := (arrOf st').map (·.2)) hoL
  have hlen : (zs'.map fun z => V.ref z.1).length ≤ sizeLine := by
    rw [List.length_map, g1.length_eq, hlk]
    exact z
  refine wpAny_pure ⟨_, rfl, .ref h'.objs.size, upd H h'.objs.size (.lst (zs'.map fun z => V.ref z.1)), I1.laid (t' := tk) (fun b u e => ?_) (Nat.le_refl _)
    (show ObjOk X.prog X.w _ _ _ (.lst (zs'.map fun z => V.ref z.1)) from ⟨hlen, ((arrOf st').map (·.2)).toList, e', by rw [g2]; exact vals_refs zs', by rw [Array.toArray_toList]; exact he'⟩), rfl, q zs' _ ?_ (fun z hz => y2 z (g1.mem_iff.mp hz)) (I1.hok.fresh (Nat.le_refl _))⟩
  · have hb : b < h'.objs.size := Heap.lt_size e
    rw [PyProof.Rows.sortedHeap_old (Nat.ne_of_lt hb) (by rw [size_push']; exact Nat.lt_succ_of_lt hb)]
    exact Heap.get?_push_of_some _ e
  · rw [← y1]; exact g1.map _
end
end My

namespace My
open PySem PySem.Spec PyProof.Rows L2
/-! ### dict(l), l a list of pairs ((int, str), True) -/
def mergeT (kvs more : List (List Key × V)) : List (List Key × V) := more.foldl (fun acc kv => putK acc kv.1 kv.2) kvs
structure KeysIn (S : Int × Str → Prop) (n : Nat) (kvs : List (List Key × V)) : Prop where
  ex : ∃ ps : List (Int × Str), kvs.map (·.1) = ps.map pk ∧ (∀ q ∈ ps, S q) ∧ ps.length ≤ n
theorem KeysIn.nil {S : Int × Str → Prop} : KeysIn S 0 [] := ⟨[], rfl, (fun _ h => nomatch h), Nat.le_refl _⟩
theorem KeysIn.put {S : Int × Str → Prop} {n : Nat} {kvs : List (List Key × V)} (h : KeysIn S n kvs) {q : Int × Str} (hq : S q) (v : V) : KeysIn S (n + 1) (putK kvs (pk q) v) := by
  obtain ⟨ps, h1, h2, h3⟩ := h.ex
  unfold putK
  by_cases c : (kvs.any fun kv => decide (kv.1 = pk q)) = true
  · rw [if_pos c]
    refine ⟨ps, ?_, h2, by omega⟩
    rw [← h1, List.map_map]
    refine List.map_congr_left fun kv _ => ?_
    show (if kv.1 = pk q then (kv.1, v) else kv).1 = kv.1
    by_cases e : kv.1 = pk q
    · rw [if_pos e]
    · rw [if_neg e]
  · rw [if_neg c]
    refine ⟨ps ++ [q], by rw [List.map_append, List.map_append, h1]; rfl, fun x hx => ?_, by rw [List.length_append]; simpa using h3⟩
    rcases List.mem_append.mp hx with hx | hx
    · exact h2 x hx
    · rw [List.mem_singleton.mp hx]; exact hq
theorem KeysIn.merge {S : Int × Str → Prop} (v : V) : ∀ {L : List (Int × Str)} {n : Nat} {kvs : List (List Key × V)}, KeysIn S n kvs → (∀ q ∈ L, S q) → KeysIn S (n + L.length) (mergeT kvs (L.map fun q => (pk q, v)))
  | [], n, kvs, h, _ => h
  | q :: L, n, kvs, h, hL => by
    have := KeysIn.merge v (L := L) (h.put (hL q List.mem_cons_self) v) fun x hx => hL x (List.mem_cons_of_mem _ hx)
    rw [List.length_cons, show n + (L.length + 1) = n + 1 + L.length by omega]
    exact this
theorem KeysIn.len {S : Int × Str → Prop} {n : Nat} {kvs : List (List Key × V)} (h : KeysIn S n kvs) : kvs.length ≤ n := by
  obtain ⟨ps, h1, _, h3⟩ := h.ex
  have := congrArg List.length h1
  rw [List.length_map, List.length_map] at this
  omega
theorem KT.merge {H : Hp} : ∀ {zs : List (Addr × Addr × (Int × Str))} {kvs : List (List Key × V)} {xs : List (List Key × Addr × Value)}, KT H kvs xs → (∀ z ∈ zs, H z.2.1 = some (.tup (pv2 z.2.2))) →
    KT H (mergeT kvs (zs.map fun z => (pk z.2.2, V.bl true))) (PySem.storedAllH xs (zs.map fun z => (pk z.2.2, z.2.1, Value.bool true)))
  | [], _, _, h, _ => h
  | z :: zs, kvs, xs, h, hz => KT.merge (zs := zs) (KT.put h (pk z.2.2) (hz z List.mem_cons_self) (show RelV (.bl true) (.bool true) from rfl)) fun y hy => hz y (List.mem_cons_of_mem _ hy)
def rDictTP (K : PySem.W.Frag) : List V → Hp → VK → Prop := fun xs H Q => ∃ (a : Addr) (zs : List (Addr × Addr × (Int × Str))), xs = [.ref a] ∧ SqL K H a (zs.map fun z => V.ref z.1) ∧ (∀ z ∈ zs, H z.1 = some (.tup [.ref z.2.1, .bl true]) ∧ H z.2.1 = some (.tup (pv2 z.2.2))) ∧ zs.length ≤ 1000 ∧
  ∀ p, H p = none → Q (.ref p) (upd H p (.dT (mergeT [] (zs.map fun z => (pk z.2.2, .bl true)))))
section
variable {X : Cx}
theorem call_dictTP (hcalm : X.calm = true) (hu : X.A.units + 64 < cLine) : CallR X (.type "dict") (rDictTP X.K) := by
  intro pins s σ H xs us Q I r q
  obtain ⟨a, zs, ex, hq, hz, hz0, q⟩ := q
  subst ex
  obtain ⟨u, eu, rx⟩ := vals1 r
  subst eu
  cases rx
  obtain ⟨its, rv, pl, hsz⟩ := I.list hq
  obtain ⟨o, n, ho, hc, hd, hdat⟩ := pl
  have ei : its = zs.map fun z => Value.ref z.1 := by
    have := refs_at (ps := zs.map (·.1)) (us := its) (by rw [List.map_map]; exact rv)
    rw [this, List.map_map]; rfl
  subst ei
  have hnew : ∀ b, H b ≠ none → b ≠ s.heap.objs.size := fun b h e => h (by rw [e]; exact I.hok.fresh (Nat.le_refl _))
  refine PySem.call_dict_pairsH (knd := tupleKind (mixKind X.prog X.w)) (ps := zs.map fun z => (pk z.2.2, z.2.1, Value.bool true))
    (PySem.PairArg.list a (zs.map fun z => Value.ref z.1).toArray (fun j => ((zs[j]?).map (·.1)).getD 0) (zs.map fun z => (Value.ref z.2.1, Value.bool true))) (I.ok.hd hcalm) (show X.A.in1.in1.units < cLine by show X.A.units + 1 + 1 < cLine; omega)
    ⟨⟨o, n, ho, hc, hd, hdat⟩, ?_⟩ ⟨by rw [List.length_map, List.length_map], fun i key v e => ?_⟩ (fun h' hk x hx => ?_) (by rw [List.length_map, sizeLine_eq]; omega) fun h' tk hd' hk => ?_
  · refine ⟨by simp, fun j k v e => ?_⟩
    rw [List.getElem?_map] at e
    cases ez : zs[j]? with
    | none => rw [ez] at e; cases e
    | some z =>
      rw [ez] at e
      have e := Option.some.inj e
      cases e
      refine ⟨by simp [ez], .inl ?_⟩
      obtain ⟨_, its, rv2, o2, ho2, hc2, n2, hd2⟩ := I.hok _ _ (hz z (List.mem_of_getElem? ez)).1
      obtain ⟨x1, x2, ei2, r1, r2⟩ := vals2 rv2
      subst ei2
      cases r1; cases r2
      exact ⟨o2, (by show s.heap.get? (((zs[j]?).map (·.1)).getD 0) = _; rw [ez]; exact ho2), hc2, n2, hd2⟩
  · have e' : (zs.map fun z => (Value.ref z.2.1, Value.bool true))[i]? = some (key, v) := e
    rw [List.getElem?_map] at e'
    cases ez : zs[i]? with
    | none => rw [ez] at e'; cases e'
    | some z =>
      rw [ez] at e'
      have e' := Option.some.inj e'
      cases e'
      exact ⟨pk z.2.2, z.2.1, by rw [List.getElem?_map, ez]; rfl, rfl⟩
  · obtain ⟨z, hzm, rfl⟩ := List.mem_map.mp hx
    have h2 := (hz z hzm).2
    obtain ⟨o3, its3, n3, g1, g2⟩ := key_of (P := X.prog) (w := X.w) (ks := pk z.2.2) I.hok h2
    exact ⟨o3, its3, n3, hk _ _ (hnew _ (by rw [h2]; exact fun y => nomatch y)) (by simp) g1, g2⟩
  · obtain ⟨od, es, ep, hod, h2, h3, h4, _, h5⟩ := hd'
    have hm : (s.heap.objs.size == sysModules) = false := beq_eq_false_iff_ne.mpr (Nat.ne_of_gt I.big)
    have kin := (KeysIn.nil (S := fun _ => True)).merge (.bl true) (L := zs.map fun z => z.2.2) fun q hq => trivial
    rw [List.map_map] at kin
    have hlen : (mergeT [] (zs.map fun z => (pk z.2.2, V.bl true))).length ≤ sizeLine := by
      have := kin.len
      rw [List.length_map] at this
      rw [sizeLine_eq]
      refine Nat.le_trans this (by omega)
    have rel : KT H (mergeT [] (zs.map fun z => (pk z.2.2, V.bl true))) (PySem.storedAllH [] (zs.map fun z => (pk z.2.2, z.2.1, Value.bool true))) := KT.merge .nil fun z hzm => (hz z hzm).2
    refine ⟨.ref s.heap.objs.size, upd H s.heap.objs.size (.dT (mergeT [] (zs.map fun z => (pk z.2.2, V.bl true)))), I.laid (t' := tk) (fun b o e => hk b o (by simp) e) (Nat.le_refl _) ⟨hlen, hm, _, rel.keeps fun c ys ec => ?_, od, es, ep, hod, h2, h3, h4, h5⟩, rfl, q _ (I.hok.fresh (Nat.le_refl _))⟩
    rw [upd_ne (hnew c (by rw [ec]; exact fun y => nomatch y))]
    exact ec
end
end My

namespace My
open PySem PySem.Spec PyProof.Rows L2
abbrev sRow : Stmt := topS 9
/-! ### the pen moves, what stands grows, tuples may come to stand -/
def NoTup (o : Option HO) : Prop := o ≠ none ∧ ∀ ys, o ≠ some (.tup ys)
def IsL (o : Option HO) : Prop := ∃ xs, o = some (.lst xs)
structure Mw (p : Addr) (G H G' H' : Hp) : Prop where
  gg : Same G G'
  gh : Same G' H'
  bt : But p H H'
  pl : IsL (H p)
  pl' : IsL (H' p)
  old : ∀ c, NoTup (H c) → G' c = G c
theorem IsL.nt {o : Option HO} (h : IsL o) : NoTup o := by
  obtain ⟨xs, rfl⟩ := h
  exact ⟨(fun z => nomatch z), fun ys z => nomatch z⟩
theorem PenC.isL {H : Hp} {p pc : Addr} {t : Nat} (P : PenC H p pc t) : IsL (H p) := by
  obtain ⟨cells, x, y, h, _⟩ := P.ex
  exact ⟨_, h⟩
theorem NoTup.but {p c : Addr} {H H' : Hp} (b : But p H H') (l : IsL (H' p)) (h : NoTup (H c)) : NoTup (H' c) := by
  by_cases e : c = p
  · rw [e]; exact l.nt
  · cases q : H c with
    | none => exact absurd q h.1
    | some o => rw [b c o e q, ← q]; exact h
theorem Mw.trans {p : Addr} {G H G1 H1 G2 H2 : Hp} (a : Mw p G H G1 H1) (b : Mw p G1 H1 G2 H2) : Mw p G H G2 H2 :=
  ⟨a.gg.trans b.gg, b.gh, a.bt.trans b.bt, a.pl, b.pl', fun c h => by rw [b.old c (h.but a.bt a.pl'), a.old c h]⟩
theorem Mw.gp {p : Addr} {G H G1 H1 : Hp} (a : Mw p G H G1 H1) (n : G p = none) : G1 p = none := by rw [a.old p a.pl.nt]; exact n
theorem Mw.keep {p c : Addr} {G H G1 H1 : Hp} (a : Mw p G H G1 H1) (h : IsL (H c)) (n : G c = none) : G1 c = none := by rw [a.old c h.nt]; exact n
theorem Mw.take {p pc : Addr} {G H H1 : Hp} {t u : Nat} (e : Same G H) (n : G p = none) (P : PenC H p pc t) (P1 : PenC H1 p pc u) (b : But p H H1) : Mw p G H G H1 :=
  ⟨Same.refl G, same_but e n b, b, P.isL, P1.isL, fun _ _ => rfl⟩
theorem Mw.nw {p pc : Addr} {G H G1 H1 : Hp} {t : Nat} (m : Nw G H G1 H1) (P : PenC H p pc t) : Mw p G H G1 H1 := by
  obtain ⟨xs, h⟩ := P.isL
  exact ⟨m.gg, m.gh, But.of m.hh, ⟨xs, h⟩, ⟨xs, m.hh _ _ h⟩, fun c hc => m.old c hc.1⟩
theorem Mw.more {p : Addr} {G H G1 H1 H2 : Hp} (m : Mw p G H G1 H1) (s : Same H1 H2) : Mw p G H G1 H2 := by
  obtain ⟨xs, h⟩ := m.pl'
  exact ⟨m.gg, m.gh.trans s, m.bt.trans (But.of s), m.pl, ⟨xs, s _ _ h⟩, m.old⟩
def alls (G H : Hp) : Hp := fun c => match H c with | some (.tup ys) => some (.tup ys) | _ => G c
theorem alls_tup {G H : Hp} {c : Addr} {ys : List V} (h : H c = some (.tup ys)) : alls G H c = some (.tup ys) := by unfold alls; rw [h]
theorem alls_no {G H : Hp} {c : Addr} (h : ∀ ys, H c ≠ some (.tup ys)) : alls G H c = G c := by
  unfold alls
  split
  · rename_i ys e; exact absurd e (h ys)
  · rfl
theorem alls_gg {G H : Hp} (e : Same G H) : Same G (alls G H) := fun c o h => by
  have h1 := e c o h
  cases o with
  | tup ys => exact alls_tup h1
  | _ => rw [alls_no (fun ys z => by rw [h1] at z; cases z)]; exact h
theorem alls_gh {G H : Hp} (e : Same G H) : Same (alls G H) H := fun c o h => by
  by_cases q : ∃ ys, H c = some (.tup ys)
  · obtain ⟨ys, hy⟩ := q
    rw [alls_tup hy] at h
    rw [hy]; exact h
  · rw [alls_no (fun ys z => q ⟨ys, z⟩)] at h
    exact e c o h
theorem Mw.all {p : Addr} {G H G1 H1 : Hp} (m : Mw p G H G1 H1) : Mw p G H (alls G1 H1) H1 :=
  ⟨m.gg.trans (alls_gg m.gh), alls_gh m.gh, m.bt, m.pl, m.pl', fun c h => by rw [alls_no (h.but m.bt m.pl').2, m.old c h]⟩
/-! ### rows -/
def rowD (row : List (Int × Str)) : PyData := .tuple (row.map fun q => .tuple [.int q.1, .str q.2])
def InB (b : Int) (ns : List Str) (q : Int × Str) : Prop := 0 ≤ q.1 ∧ q.1 < b ∧ q.2 ∈ ns
structure RowIn (b : Int) (ns : List Str) (most : Nat) (row : List (Int × Str)) : Prop where
  mem : ∀ q ∈ row, InB b ns q
  len : row.length ≤ most
def spRow (K : PySem.W.Frag) : Sp := fun vs H Q _ => ∃ (p pc ln : Addr) (b : Int) (ns : List Str) (most t : Nat) (G : Hp), vs = [.ref p, .int b, .ref ln, .int most] ∧ 2 ≤ b ∧ b ≤ 10 ∧ ns ≠ [] ∧ ns.length ≤ 8 ∧ most ≤ 12 ∧ PenC H p pc t ∧ t + 40 < 2 ^ 29 ∧
  Same G H ∧ G p = none ∧ ln ≠ p ∧ H ln = some (.lst (ns.map V.str)) ∧
  ∀ (v : V) (row : List (Int × Str)) (G' H' : Hp), Mw p G H G' H' → PenC H' p pc (t + 1 + 2 * most) → Dq K G' v (rowD row) → RowIn b ns most row → Q v H'
structure TxR (mg : Str → Option Value) : Prop where
  len : mg "len" = none
  range : mg "range" = none
  tuple : mg "tuple" = none
  sorted : mg "sorted" = none
theorem dq_pair2 {K : PySem.W.Frag} {G : Hp} {a : Addr} {q : Int × Str} (h : G a = some (.tup (pv2 q))) : Dq K G (.ref a) (.tuple [.int q.1, .str q.2]) := .tup h (.cons (.int _) (.cons (.str _) .nil))
theorem dq_zs {K : PySem.W.Frag} {G : Hp} : ∀ {zs : List (Addr × Int × Str)}, (∀ z ∈ zs, G z.1 = some (.tup (pv2 z.2))) → DqAll K G (zs.map fun z => V.ref z.1) ((zs.map (·.2)).map fun q => .tuple [.int q.1, .str q.2])
  | [], _ => .nil
  | z :: zs, h => .cons (dq_pair2 (h z List.mem_cons_self)) (dq_zs fun y hy => h y (List.mem_cons_of_mem _ hy))
theorem str_at {ns : List Str} {i : Int} (h0 : 0 ≤ i) (h1 : i < ns.length) : ∃ x : Str, x ∈ ns ∧ atI (ns.map V.str) i = some (.str x) := by
  obtain ⟨j, rfl⟩ : ∃ j : Nat, i = (j : Int) := ⟨i.toNat, by omega⟩
  have hj : j < ns.length := by omega
  exact ⟨ns[j], List.getElem_mem hj, atI_nat (by rw [List.getElem?_map, List.getElem?_eq_getElem hj]; rfl)⟩
section
variable {P : Program} {w : World} {K : PySem.W.Frag} {mg : Str → Option Value} {base : Heap}
theorem scRow : FnScope ["pen", "base", "names", "most", "found", "turn"] ["pen", "base", "names", "most"] (defScope sRow) := ⟨rfl, rfl, rfl, by decide +kernel, rfl, by decide +kernel, by decide +kernel⟩
theorem ok_row {f fT : Addr} {fd fdT : FuncData} (F : Fun K "_law_row" "_law_row" sRow f fd) (T : TxR mg)
    (FT : Fun K "_law_take" "_law_take" sTake fT fdT) (GT : FnOk P w K mg base CX0 2 fT fdT ["pen", "many"] spTakeC) (bT : Binds K fdT ["pen", "many"] []) (gT : mg "_law_take" = some (.ref fT)) :
    FnOk P w K mg base CX0 3 f fd ["pen", "base", "names", "most"] (spRow K) := by
  refine F.ok scRow (fun vs H Q E h => ?_) (fun cdv A outer s H vs Q E hr h => ?_)
  · obtain ⟨p, pc, ln, b, ns, most, t, G, rfl, _⟩ := h
    rfl
  · obtain ⟨p, pc, ln, b, ns, most, t, G, rfl, b0, b1, n0, n8, hmo, PC, ht, e, np, lp, hln, k⟩ := h
    have hr2 := hr
    have hu := Nat.lt_trans (Nat.add_lt_add_left (show 1 < 64 by decide) _) hr.units
    have nl0 : 0 < ns.length := List.length_pos_iff.mpr n0
    refine ⟨_, (pss_cons (ps_set (i := 4) scRow.nd rfl (Or.inl rfl) pe_dnewT)
      (pss_cons (ps_for PassesOwn.never rfl (pi_range1 (by rfl) T.range (pa_cons (pe_call GT hr2 (by rfl) gT FT.kp bT .nil pass0 (pa_cons (pv 0) (pa_cons (pe_op op_add (pv 3) pe_int) pa_nil))) pa_nil)) (pg_name (i := 5) scRow.nd rfl (Or.inl rfl)) (pss_one (ps_dput hu (pv 4) (pe_tup (pa_cons (pe_call GT hr2 (by rfl) gT FT.kp bT .nil pass0 (pa_cons (pv 0) (pa_cons (pv 1) pa_nil))) (pa_cons (pe_ix ix_list (pv 2) (pe_call GT hr2 (by rfl) gT FT.kp bT .nil pass0 (pa_cons (pv 0) (pa_cons (pe_callB call_len_seq (by rfl) T.len PySem.boot_len (pa_cons (pv 2) pa_nil)) pa_nil))) (fun _ _ => rfl)) pa_nil))) pe_bl rfl)))
      (pss_one (ps_ret (pe_callTy call_tuple_of (by rfl) T.tuple boot_tuple (pa_cons (pe_callB (call_sortedDT rfl) (by rfl) T.sorted boot_sorted (pa_cons (pv 4) pa_nil)) pa_nil)))))), ?_⟩
    intro d nd
    have dp : d ≠ p := pen_not PC.any nd
    have dc : d ≠ pc := fun z => PC.at_c (by rw [← z]; exact nd)
    have dl : d ≠ ln := fun z => by rw [← z, nd] at hln; cases hln
    have P0 := PC.upd dp dc (Nat.le_refl _) (.dT [])
    refine ⟨_, rfl, _, rfl, _, _, rfl, rfl, p, pc, _, t, rfl, by omega, small_int (by omega) (by omega), P0, by omega, fun m H1 m0 m1 b1' P1 => ?_⟩
    obtain ⟨c, rfl⟩ : ∃ c : Nat, m = (c : Int) := ⟨m.toNat, by omega⟩
    refine ⟨_, rfl, by omega, by omega, ?_⟩
    rw [Int.toNat_natCast]
    refine for_it (walk_range (lo := 0) (n := c)) (fun i σ H2 => (∃ y : Option V, σ = [some (.ref p), some (.int b), some (.ref ln), some (.int most), some (.ref d), y]) ∧ PenC H2 p pc (t + 1 + 2 * i) ∧ But p H H2 ∧ i ≤ c ∧ ∃ kvs, H2 d = some (.dT kvs) ∧ KeysIn (InB b ns) i kvs)
      ⟨⟨none, rfl⟩, P1, (But.of (Same.upd nd)).trans b1', Nat.zero_le _, [], b1' _ _ dp upd_same, .nil⟩ (fun _ _ _ _ _ => trivial) ?_ ?_
    · rintro i x σ H2 H3 hi' ⟨⟨y, rfl⟩, P2, bt2, _, kvs, hd, hk⟩ ⟨rfl, rfl⟩
      refine ⟨_, rfl, _, rfl, _, rfl, p, pc, b, _, rfl, by omega, small_int (by omega) (by omega), P2, by omega, fun dg H4 d0 d1 b4 P4 => ?_⟩
      have ln4 := b4 _ _ lp (bt2 _ _ lp hln)
      refine ⟨_, rfl, _, rfl, _, rfl, ln, _, rfl, .inl (SqL.of ln4), p, pc, _, _, rfl, by rw [List.length_map]; omega, by rw [List.length_map]; exact small_nat (by omega), P4, by omega, fun ix H5 i0 i1 b5 P5 => ?_⟩
      rw [List.length_map] at i1
      obtain ⟨x, hx, hxa⟩ := str_at i0 i1
      have ln5 := b5 _ _ lp ln4
      refine ⟨ln, _, _, _, rfl, rfl, SqL.of ln5, hxa, (by show 2 ≤ sizeLine; decide), fun q nq => ?_⟩
      have hd5 := b5 _ _ dp (b4 _ _ dp hd)
      have qd : d ≠ q := ne_of_none hd5 nq
      have qp : q ≠ p := pen_not P5.any nq
      have qc : q ≠ pc := fun z => P5.at_c (by rw [← z]; exact nq)
      refine ⟨d, _, rfl, DPut.t (k := pk (dg, x)) (by rw [upd_ne qd]; exact hd5) upd_same (by have := hk.len; rw [sizeLine_eq]; omega), ⟨_, rfl⟩, (P5.upd qp qc (Nat.le_refl _) _).upd dp dc (by omega) _, ?_, by omega, _, upd_same, hk.put (q := (dg, x)) ⟨d0, d1, hx⟩ _⟩
      intro z o hz ho
      have hzd : z ≠ d := ne_of_none ho nd
      have h5 := b5 z o hz (b4 z o hz (bt2 z o hz ho))
      rw [upd_ne hzd, upd_ne (ne_of_none h5 nq)]
      exact h5
    · rintro σ H2 ⟨⟨y, rfl⟩, P2, bt2, _, kvs, hd, hk⟩
      obtain ⟨ps, k1, k2, k3⟩ := hk.ex
      refine ⟨_, rfl, d, kvs, ps, rfl, hd, k1, fun zs l hp hz nl => ?_⟩
      refine ⟨l, _, rfl, .inl ⟨SqL.of upd_same, fun q nq => ?_⟩⟩
      have m0 : Mw p G H G H2 := Mw.take e np PC P2 bt2
      have m1 := (m0.all).more (Same.upd nl (o := .lst (zs.map fun z => V.ref z.1)))
      have lq : l ≠ q := ne_of_none upd_same nq
      have m2 := m1.trans (Mw.nw (Nw.mk1 m1.gh nq (.tup (zs.map fun z => V.ref z.1))) (P2.same (Same.upd nl) (Nat.le_refl _)))
      refine k (.ref q) (zs.map (·.2)) _ _ m2 ((P2.same (Same.upd nl) (Nat.le_refl _)).same (Same.upd nq) (by omega)) ?_ ⟨fun x hx => k2 x (hp.mem_iff.mp hx), by rw [hp.length_eq]; omega⟩
      refine .tup upd_same (dq_zs fun z hzm => ?_)
      rw [upd_ne (fun w' => ?_)]
      · exact alls_tup (hz z hzm)
      · have h1 := (Same.upd nl (o := .lst (zs.map fun z => V.ref z.1))) _ _ (hz z hzm)
        rw [w', nq] at h1
        cases h1
end
end My

namespace My
open PySem PySem.Spec PyProof.Rows L2
abbrev sBook : Stmt := topS 10
/-! ### displays, by what stays -/
section
variable {X : Cx} {es : List Expr} {t : TA} {pos : Pos}
theorem paMono (h : PA X es t) : PA X es (fun σ H R => ∃ S : List V → Hp → Prop, t σ H S ∧ ∀ vs H1, S vs H1 → R vs H1) :=
  ⟨fun pos pins s σ H Q I ⟨S, h1, h2⟩ => thn (h.run pos pins s σ H S I h1) fun us s1 ⟨vs, H1, I1, r, q⟩ => ⟨vs, H1, I1, r, h2 _ _ q⟩⟩
def tTupS (t : TA) : TE := fun σ H Q => t σ H fun vs H1 => vs.length ≤ sizeLine ∧ ∀ q H2, Same H1 H2 → H2 q = some (.tup vs) → Q (.ref q) H2
def tLstS (t : TA) : TE := fun σ H Q => t σ H fun vs H1 => vs.length ≤ sizeLine ∧ ∀ q H2, Same H1 H2 → H1 q = none → H2 q = some (.lst vs) → Q (.ref q) H2
theorem pe_tupS {x1} (h : PA X es t) : PE X (.Tuple es x1 pos) (tTupS t) := PE.imp (pe_tup (paMono h)) fun _ _ _ q => ⟨_, q, fun _ _ z => ⟨z.1, fun p np => z.2 p _ (Same.upd np) upd_same⟩⟩
theorem pe_lstS (h : PA X es t) : PE X (.List es pos) (tLstS t) := PE.imp (pe_lst (paMono h)) fun _ _ _ q => ⟨_, q, fun _ _ z => ⟨z.1, fun p np => z.2 p _ (Same.upd np) np upd_same⟩⟩
end
/-- a list of pairs -/
structure PL (b : Int) (ns : List Str) (H : Hp) (a : Addr) : Prop where
  ex : ∃ zs : List (Addr × Int × Str), H a = some (.lst (zs.map fun z => .ref z.1)) ∧ (∀ z ∈ zs, H z.1 = some (.tup (pv2 z.2)) ∧ InB b ns z.2) ∧ zs.length ≤ 12
theorem PL.same {b : Int} {ns : List Str} {H H' : Hp} {a : Addr} (h : PL b ns H a) (e : Same H H') : PL b ns H' a := by
  obtain ⟨zs, h1, h2, h3⟩ := h.ex
  exact ⟨zs, e _ _ h1, fun z hz => ⟨e _ _ (h2 z hz).1, (h2 z hz).2⟩, h3⟩
theorem PL.one {b : Int} {ns : List Str} {H : Hp} {a q : Addr} {x : Int × Str} (h : H a = some (.lst [.ref q])) (h1 : H q = some (.tup (pv2 x))) (i : InB b ns x) : PL b ns H a :=
  ⟨[(q, x)], h, fun z hz => by rw [List.mem_singleton.mp hz]; exact ⟨h1, i⟩, by show 1 ≤ 12; decide⟩
theorem PL.two {b : Int} {ns : List Str} {H : Hp} {a q r : Addr} {x y : Int × Str} (h : H a = some (.lst [.ref q, .ref r])) (h1 : H q = some (.tup (pv2 x))) (h2 : H r = some (.tup (pv2 y))) (i : InB b ns x) (j : InB b ns y) : PL b ns H a :=
  ⟨[(q, x), (r, y)], h, fun z hz => by
    rcases List.mem_cons.mp hz with rfl | hz
    · exact ⟨h1, i⟩
    · rw [List.mem_singleton.mp hz]; exact ⟨h2, j⟩, by show 2 ≤ 12; decide⟩
theorem adr_at {as : List Addr} {i : Int} (h0 : 0 ≤ i) (h1 : i < as.length) : ∃ x : Addr, x ∈ as ∧ atI (as.map V.ref) i = some (.ref x) := by
  obtain ⟨j, rfl⟩ : ∃ j : Nat, i = (j : Int) := ⟨i.toNat, by omega⟩
  have hj : j < as.length := by omega
  exact ⟨as[j], List.getElem_mem hj, atI_nat (by rw [List.getElem?_map, List.getElem?_eq_getElem hj]; rfl)⟩
theorem Mw.own {p r : Addr} {G H G1 H1 : Hp} {o : HO} (m : Mw p G H G1 H1) (h : H r = none) (n : G1 r = none) (hp : r ≠ p) : Mw p G H G1 (upd H1 r o) := by
  refine ⟨m.gg, fun c u hc => ?_, fun c u n1 hc => ?_, m.pl, by rw [upd_ne hp.symm]; exact m.pl', m.old⟩
  · rw [upd_ne (ne_of_none hc n)]; exact m.gh c u hc
  · rw [upd_ne (ne_of_none hc h)]; exact m.bt c u n1 hc
theorem Mw.stand {p r : Addr} {G H G1 H1 : Hp} {o : HO} (m : Mw p G H G1 H1) (h : H r = none) (e : H1 r = some o) : Mw p G H (upd G1 r o) H1 := by
  refine ⟨fun c u hc => ?_, fun c u hc => ?_, m.bt, m.pl, m.pl', fun c hc => ?_⟩
  · by_cases z : c = r
    · subst z
      rw [upd_same]
      have := m.gh c u (m.gg c u hc)
      rw [e] at this
      exact this
    · rw [upd_ne z]; exact m.gg c u hc
  · by_cases z : c = r
    · subst z
      rw [upd_same] at hc
      rw [e]; exact hc
    · rw [upd_ne z] at hc; exact m.gh c u hc
  · rw [upd_ne (fun z => hc.1 (by rw [z]; exact h)), m.old c hc]
/-- a book -/
def bookD (b : Int) (ns : List Str) (rws : List (List (Int × Str))) : PyData := .tuple [.int b, .dict ((ns.zip rws).map fun z => (.str z.1, rowD z.2))]
structure BookOk (b : Int) (ns : List Str) (rws : List (List (Int × Str))) : Prop where
  b0 : 2 ≤ b
  b1 : b ≤ 10
  n0 : ns ≠ []
  n8 : ns.length ≤ 8
  nod : ns.Nodup
  ok : ∀ x ∈ ns, NameOk x
  len : rws.length = ns.length
  rows : ∀ row ∈ rws, RowIn b ns 12 row
def spBook (K : PySem.W.Frag) : Sp := fun vs H Q _ => ∃ (p pc ln : Addr) (b : Int) (ns : List Str) (most t : Nat) (G : Hp), vs = [.ref p, .int b, .ref ln, .int most] ∧ 2 ≤ b ∧ b ≤ 10 ∧ ns ≠ [] ∧ NamesOk ns ns.length ∧ ns.length ≤ 8 ∧ most ≤ 12 ∧ PenC H p pc t ∧ t + 400 < 2 ^ 29 ∧
  Same G H ∧ G p = none ∧ ln ≠ p ∧ H ln = some (.lst (ns.map V.str)) ∧
  ∀ (v : V) (rws : List (List (Int × Str))) (G' H' : Hp), Mw p G H G' H' → PenC H' p pc (t + 30 * ns.length) → Dq K G' v (bookD b ns rws) → BookOk b ns rws → Q v H'
structure TxB (mg : Str → Option Value) : Prop where
  len : mg "len" = none
  range : mg "range" = none
  tuple : mg "tuple" = none
  sorted : mg "sorted" = none
  dict : mg "dict" = none
section
variable {P : Program} {w : World} {K : PySem.W.Frag} {mg : Str → Option Value} {base : Heap}
theorem scBook : FnScope ["pen", "base", "names", "most", "rows", "name", "other", "d", "e", "way", "row", "some", "k", "pair"] ["pen", "base", "names", "most"] (defScope sBook) := ⟨rfl, rfl, rfl, by decide +kernel, rfl, by decide +kernel, by decide +kernel⟩
theorem dqApp {G : Hp} : ∀ {vs us : List V} {ds es : List PyData}, DqAll K G vs ds → DqAll K G us es → DqAll K G (vs ++ us) (ds ++ es)
  | _, _, _, _, .nil, h => h
  | _, _, _, _, .cons a r, h => .cons a (dqApp r h)
theorem dqStrs {G : Hp} : ∀ ns : List Str, DqAll K G (ns.map V.str) (ns.map PyData.str)
  | [] => .nil
  | x :: ns => .cons (.str x) (dqStrs ns)
theorem dqKeys {G : Hp} {kvs : List (Key × V)} {ns : List Str} {rws : List (List (Int × Str))} (h : kvs.map (·.1) = ns.map Sum.inr) (hl : rws.length = ns.length) : DqAll K G (kvs.map fun kv => kV kv.1) (((ns.zip rws).map fun z => (PyData.str z.1, rowD z.2)).map (·.1)) := by
  have e1 : (kvs.map fun kv => kV kv.1) = ns.map V.str := by
    have := congrArg (List.map kV) h
    rw [List.map_map, List.map_map] at this
    exact this
  have e2 : ((ns.zip rws).map fun z => (PyData.str z.1, rowD z.2)).map (·.1) = ns.map PyData.str := by
    rw [List.map_map]
    have := congrArg (List.map PyData.str) (List.map_fst_zip (l₁ := ns) (l₂ := rws) (by omega))
    rw [List.map_map] at this
    exact this
  rw [e1, e2]
  exact dqStrs ns
theorem zipVals {ns : List Str} {rws : List (List (Int × Str))} (hl : rws.length = ns.length) : ((ns.zip rws).map fun z => (PyData.str z.1, rowD z.2)).map (·.2) = rws.map rowD := by
  rw [List.map_map]
  have := congrArg (List.map rowD) (List.map_snd_zip (l₁ := ns) (l₂ := rws) (by omega))
  rw [List.map_map] at this
  exact this
theorem put_new {kvs : List (Key × V)} {ks : List Str} {x : Str} {v : V} (h : kvs.map (·.1) = ks.map Sum.inr) (n : x ∉ ks) : putK kvs (Sum.inr x) v = kvs ++ [(Sum.inr x, v)] := by
  unfold putK
  rw [if_neg]
  intro z
  obtain ⟨kv, h1, h2⟩ := List.any_eq_true.mp z
  have h3 : kv.1 = Sum.inr x := of_decide_eq_true h2
  have h4 : kv.1 ∈ ks.map Sum.inr := by rw [← h]; exact List.mem_map.mpr ⟨kv, h1, rfl⟩
  obtain ⟨y, hy, e⟩ := List.mem_map.mp h4
  rw [h3] at e
  cases e
  exact n hy
theorem take_new {ns : List Str} (h : ns.Nodup) {i : Nat} {x : Str} (hx : ns[i]? = some x) : x ∉ ns.take i := by
  intro z
  obtain ⟨j, hj⟩ := List.mem_iff_getElem?.mp z
  rw [List.getElem?_take] at hj
  by_cases c : j < i
  · rw [if_pos c] at hj
    have hi : i < ns.length := (List.getElem?_eq_some_iff.mp hx).1
    have := (List.getElem?_inj (by omega) h).mp (hj.trans hx.symm)
    omega
  · rw [if_neg c] at hj; cases hj
theorem ne_tl {H : Hp} {a c : Addr} {xs ys : List V} (h : H a = some (.tup xs)) (g : H c = some (.lst ys)) : a ≠ c := fun z => by rw [z, g] at h; cases h
theorem ok_book {f fT fRw : Addr} {fd fdT fdRw : FuncData} (F : Fun K "_law_book" "_law_book" sBook f fd) (T : TxB mg)
    (FT : Fun K "_law_take" "_law_take" sTake fT fdT) (GT : FnOk P w K mg base CX0 2 fT fdT ["pen", "many"] spTakeC) (bT : Binds K fdT ["pen", "many"] []) (gT : mg "_law_take" = some (.ref fT))
    (FRw : Fun K "_law_row" "_law_row" sRow fRw fdRw) (GRw : FnOk P w K mg base CX0 3 fRw fdRw ["pen", "base", "names", "most"] (spRow K)) (bRw : Binds K fdRw ["pen", "base", "names", "most"] []) (gRw : mg "_law_row" = some (.ref fRw)) :
    FnOk P w K mg base CX0 4 f fd ["pen", "base", "names", "most"] (spBook K) := by
  refine F.ok scBook (fun vs H Q E h => ?_) (fun cdv A outer s H vs Q E hr h => ?_)
  · obtain ⟨p, pc, ln, b, ns, most, t, G, rfl, _⟩ := h
    rfl
  · obtain ⟨p, pc, ln, b, ns, most, t, G, rfl, b0, b1, n0, nok, n8, hmo, PC, ht, e, np, lp, hln, k⟩ := h
    have hr3 := hr
    have hr2 : Room 2 _ := hr.mono (by decide)
    have hu := hr.units
    have hu1 := Nat.lt_trans (Nat.add_lt_add_left (show 1 < 64 by decide) _) hr.units
    have nl0 : 0 < ns.length := List.length_pos_iff.mpr n0
    refine ⟨_, (pss_cons (ps_set (i := 4) scBook.nd rfl (Or.inl rfl) pe_dnewK)
      (pss_cons (ps_for PassesOwn.never rfl (pi_list (pv 2)) (pg_name (i := 5) scBook.nd rfl (Or.inr rfl)) (pss_cons (ps_set (i := 6) scBook.nd rfl (Or.inl rfl) (pe_ix ix_list (pv 2) (pe_call GT hr2 (by rfl) gT FT.kp bT .nil pass0 (pa_cons (pv 0) (pa_cons (pe_callB call_len_seq (by rfl) T.len PySem.boot_len (pa_cons (pv 2) pa_nil)) pa_nil))) (fun _ _ => rfl)))
      (pss_cons (ps_set (i := 7) scBook.nd rfl (Or.inl rfl) (pe_call GT hr2 (by rfl) gT FT.kp bT .nil pass0 (pa_cons (pv 0) (pa_cons (pv 1) pa_nil))))
      (pss_cons (ps_set (i := 8) scBook.nd rfl (Or.inl rfl) (pe_call GT hr2 (by rfl) gT FT.kp bT .nil pass0 (pa_cons (pv 0) (pa_cons (pv 1) pa_nil))))
      (pss_cons (ps_set (i := 9) scBook.nd rfl (Or.inl rfl) (pe_call GT hr2 (by rfl) gT FT.kp bT .nil pass0 (pa_cons (pv 0) (pa_cons pe_int pa_nil))))
      (pss_cons (ps_set (i := 10) scBook.nd rfl (Or.inl rfl) (pe_call GRw hr3 (by rfl) gRw FRw.kp bRw .nil pass0 (pa_cons (pv 0) (pa_cons (pv 1) (pa_cons (pv 2) (pa_cons (pv 3) pa_nil))))))
      (C8.pss_cut (ps_if (pt_cmpR op_gt (pv 9) pe_int (nomark _)) (C8.pss_cut (ps_set (i := 11) scBook.nd rfl (Or.inl rfl) (pe_lstS (pa_cons (pe_lstS (pa_cons (pe_tupS (pa_cons (pv 7) (pa_cons (pv 5) pa_nil))) (pa_cons (pe_tupS (pa_cons (pv 8) (pa_cons (pv 5) pa_nil))) pa_nil))) (pa_cons (pe_lc (own := [("k", 12)]) (g := gName 12) (tt := tYes) rfl scBook.nd (pi_range1 (by rfl) T.range (pa_cons (pv 1) pa_nil)) (blkOk_by (N := ["pen", "base", "names", "most", "rows", "name", "other", "d", "e", "way", "row", "some", "k", "pair"]) (sc := defScope sBook) (by decide +kernel)) (fun _ _ _ _ _ => pg_name (i := 12) scBook.nd rfl (Or.inl rfl)) (fun _ _ _ _ _ => pts_nil) (fun _ _ _ _ _ => (pe_tupS (pa_cons (pv 12) (pa_cons (pv 5) pa_nil))))) (pa_cons (pe_lstS (pa_cons (pe_tupS (pa_cons pe_int (pa_cons (pv 6) pa_nil))) (pa_cons (pe_tupS (pa_cons (pe_op op_sub (pv 1) pe_int) (pa_cons (pv 5) pa_nil))) pa_nil))) pa_nil)))))
      (C8.pss_cut (ps_set (i := 11) scBook.nd rfl (Or.inl rfl) (pe_op op_cat (pv 11) (pe_lstS (pa_cons (pe_lstS (pa_cons (pe_tupS (pa_cons (pv 7) (pa_cons (pv 5) pa_nil))) pa_nil)) (pa_cons (pe_lstS (pa_cons (pe_tupS (pa_cons (pv 7) (pa_cons (pv 5) pa_nil))) (pa_cons (pe_tupS (pa_cons (pv 8) (pa_cons (pv 6) pa_nil))) pa_nil))) (pa_cons (pe_lstS (pa_cons (pe_tupS (pa_cons (pv 7) (pa_cons (pv 6) pa_nil))) (pa_cons (pe_tupS (pa_cons (pv 7) (pa_cons (pv 5) pa_nil))) pa_nil))) pa_nil))))))
      (pss_one (ps_set (i := 10) scBook.nd rfl (Or.inl rfl) (pe_callTy call_tuple_of (by rfl) T.tuple boot_tuple (pa_cons (pe_callB (call_sortedDT rfl) (by rfl) T.sorted boot_sorted (pa_cons (pe_callTy (call_dictTP rfl hu) (by rfl) T.dict boot_dict (pa_cons (pe_lc (own := [("pair", 13)]) (g := gName 13) (tt := tYes) rfl scBook.nd (pi_list (pe_ix ix_list (pv 11) (pe_op op_sub (pv 9) pe_int) (fun _ _ => rfl))) (blkOk_by (N := ["pen", "base", "names", "most", "rows", "name", "other", "d", "e", "way", "row", "some", "k", "pair"]) (sc := defScope sBook) (by decide +kernel)) (fun _ _ _ _ _ => pg_name (i := 13) scBook.nd rfl (Or.inl rfl)) (fun _ _ _ _ _ => pts_nil) (fun _ _ _ _ _ => (pe_tupS (pa_cons (pv 13) (pa_cons pe_bl pa_nil))))) pa_nil)) pa_nil)) pa_nil)))))) pss_nil)
      (pss_one (ps_dput hu1 (pv 4) (pv 5) (pv 10) rfl)))))))))
      (pss_one (ps_ret (pe_tup (pa_cons (pv 1) (pa_cons (pv 4) pa_nil))))))), ?_⟩
    intro r nr
    have rp : r ≠ p := pen_not PC.any nr
    have rc : r ≠ pc := fun z => PC.at_c (by rw [← z]; exact nr)
    have rl : r ≠ ln := fun z => by rw [← z, nr] at hln; cases hln
    have gr : G r = none := e.free nr
    have M0 : Mw p G H G (upd H r (.dK [])) := (Mw.take e np PC PC (fun _ _ _ h => h)).own nr gr rp
    refine ⟨_, rfl, ln, rfl, ⟨_, SqL.of ((Same.upd nr) _ _ hln)⟩, for_it (walk_list (K := K) (a := ln) (xs := ns.map V.str)) (fun i σ H2 => (∃ y5 y6 y7 y8 y9 y10 y11 : Option V, σ = [some (.ref p), some (.int b), some (.ref ln), some (.int most), some (.ref r), y5, y6, y7, y8, y9, y10, y11, none, none]) ∧ PenC H2 p pc (t + 30 * i) ∧ i ≤ ns.length ∧
      ∃ (G2 : Hp) (kvs : List (Key × V)) (rws : List (List (Int × Str))), Mw p G H G2 H2 ∧ H2 r = some (.dK kvs) ∧ G2 r = none ∧ kvs.map (·.1) = (ns.take i).map Sum.inr ∧ DqAll K G2 (kvs.map (·.2)) (rws.map rowD) ∧ (∀ row ∈ rws, RowIn b ns 12 row) ∧ rws.length = i) ?_ ?_ ?_ ?_⟩
    · exact ⟨⟨_, _, _, _, _, _, _, rfl⟩, PC.upd rp rc (by omega) _, Nat.zero_le _, G, [], [], M0, upd_same, gr, rfl, .nil, (fun _ h => nomatch h), rfl⟩
    · rintro i σ H2 _ ⟨_, _, _, G2, kvs, rws, m, _⟩
      exact SqL.of (m.bt _ _ lp hln)
    · rintro i x σ H2 H3 hi' ⟨⟨y5, y6, y7, y8, y9, y10, y11, rfl⟩, P2, hi, G2, kvs, rws, m, hrk, g2r, hk, hdq, hin, hlen⟩ ⟨rfl, hx⟩
      rw [List.length_map] at hi'
      obtain ⟨nm, hnm, rfl⟩ : ∃ nm, ns[i]? = some nm ∧ x = .str nm := by
        rw [List.getElem?_map, List.getElem?_eq_getElem hi'] at hx
        exact ⟨ns[i], List.getElem?_eq_getElem hi', (Option.some.inj hx).symm⟩
      have nmin : nm ∈ ns := List.mem_of_getElem? hnm
      have ln2 := m.bt _ _ lp hln
      refine ⟨_, rfl, _, rfl, _, rfl, ln, _, rfl, .inl (SqL.of ln2), p, pc, _, _, rfl, by rw [List.length_map]; omega, by rw [List.length_map]; exact small_nat (by omega), P2, by omega, fun ix H3 i0 i1 b3 P3 => ?_⟩
      rw [List.length_map] at i1
      obtain ⟨ot, otin, hot⟩ := str_at i0 i1
      have ln3 := b3 _ _ lp ln2
      refine ⟨ln, _, _, _, rfl, rfl, SqL.of ln3, hot, ?_⟩
      refine ⟨_, rfl, _, rfl, p, pc, b, _, rfl, by omega, small_int (by omega) (by omega), P3, by omega, fun d H4 d0 d1 b4 P4 => ?_⟩
      refine ⟨_, rfl, _, rfl, p, pc, b, _, rfl, by omega, small_int (by omega) (by omega), P4, by omega, fun e' H5 e0 e1 b5 P5 => ?_⟩
      refine ⟨_, rfl, p, pc, 12, _, rfl, by decide, by decide, P5, by omega, fun wy H6 w0 w1 b6 P6 => ?_⟩
      have bt6 := ((b3.trans b4).trans b5).trans b6
      have m6 := m.trans (Mw.take m.gh (m.gp np) P2 P6 bt6)
      have r6 := bt6 _ _ rp hrk
      refine ⟨_, rfl, _, rfl, _, rfl, _, rfl, p, pc, ln, b, ns, most, _, G2, rfl, b0, b1, n0, n8, hmo, P6, by omega, m6.gh, m.gp np, lp, bt6 _ _ lp ln2, fun v row G7 H7 mr P7 dqv rin => ?_⟩
      have m7 := m6.trans mr
      have r7 := mr.bt _ _ rp r6
      have g7r : G7 r = none := by rw [mr.old r ⟨some_ne r6, fun ys z => by rw [r6] at z; cases z⟩]; exact g2r
      have dq7 := hdq.mono mr.gg
      have P7 : PenC H7 p pc (t + 30 * (i + 1)) := P7.same (Same.refl _) (by omega)
      refine ⟨fun σ H8 => ∃ (v' : V) (row' : List (Int × Str)) (G8 : Hp) (y11 : Option V), σ = [some (.ref p), some (.int b), some (.ref ln), some (.int most), some (.ref r), some (.str nm), some (.str ot), some (.int d), some (.int e'), some (.int wy), some v', y11, none, none] ∧
        Mw p G H G8 H8 ∧ Same G7 G8 ∧ PenC H8 p pc (t + 30 * (i + 1)) ∧ H8 r = some (.dK kvs) ∧ G8 r = none ∧ Dq K G8 v' (rowD row') ∧ RowIn b ns 12 row', ?_, ?_⟩
      · have dn : InB b ns (d, nm) := ⟨d0, d1, nmin⟩
        have en : InB b ns (e', nm) := ⟨e0, e1, nmin⟩
        have dob : InB b ns (d, ot) := ⟨d0, d1, otin⟩
        have eob : InB b ns (e', ot) := ⟨e0, e1, otin⟩
        refine ⟨_, rfl, _, _, rfl, rfl, _, rfl, ite2 (fun wy6 => ?_) (fun _ => ⟨v, row, G7, _, rfl, m7, Same.refl _, P7, r7, g7r, dqv, rin.mem, by have := rin.len; omega⟩)⟩
        have wy6 := of_decide_eq_true wy6
        refine ⟨fun σ H8 => ∃ (sm : Addr) (as : List Addr), σ = [some (.ref p), some (.int b), some (.ref ln), some (.int most), some (.ref r), some (.str nm), some (.str ot), some (.int d), some (.int e'), some (.int wy), some v, some (.ref sm), none, none] ∧ Same H7 H8 ∧ H8 sm = some (.lst (as.map V.ref)) ∧ (∀ a ∈ as, PL b ns H8 a) ∧ as.length = 3, ?_, ?_⟩
        · refine ⟨_, rfl, _, rfl, (by show 2 ≤ sizeLine; decide), fun q1 Ha s1 h1 => ?_⟩
          refine ⟨_, rfl, _, rfl, (by show 2 ≤ sizeLine; decide), fun q2 Hb s2 h2 => ⟨(by show 2 ≤ sizeLine; decide), fun l1 Hc s3 _ g1 => ?_⟩⟩
          have pl1 : PL b ns Hc l1 := PL.two (x := (d, nm)) (y := (e', nm)) g1 (s3 _ _ (s2 _ _ h1)) (s3 _ _ h2) dn en
          have sc : Same H7 Hc := (s1.trans s2).trans s3
          refine ⟨_, rfl, _, rfl, by omega, by omega, fun D nD => ?_⟩
          refine lc_it (walk_range (lo := 0) (n := b.toNat)) (fun j Hi => Same Hc Hi ∧ j ≤ b.toNat ∧ ∃ zs : List (Addr × Int × Str), Hi D = some (.lst (zs.map fun z => V.ref z.1)) ∧ (∀ z ∈ zs, Hi z.1 = some (.tup (pv2 z.2)) ∧ InB b ns z.2) ∧ zs.length = j)
            ⟨Same.upd nD, Nat.zero_le _, [], upd_same, (fun _ h => nomatch h), rfl⟩ (fun _ _ _ _ => trivial) ?_ ?_
          · rintro j x Hi Hj hj ⟨sj, _, zs, hD, hz, hzl⟩ ⟨rfl, hx⟩
            replace hx : x = V.int j := hx.trans (by show V.int (0 + (j : Int)) = _; rw [Int.zero_add])
            subst hx
            refine ⟨rfl, ?_⟩
            refine ⟨_, rfl, _, rfl, (by show 2 ≤ sizeLine; decide), fun q Hk sk hq => ?_⟩
            have hDk := sk _ _ hD
            refine ⟨_, hDk, by rw [List.length_map, sizeLine_eq]; omega, fun c o hc => ?_, by omega, zs ++ [(q, ((j : Int), nm))], by rw [upd_same, List.map_append]; rfl, fun z hzm => ?_, by rw [List.length_append, hzl]; rfl⟩
            · rw [upd_ne (ne_of_none hc nD)]
              exact sk _ _ (sj c o hc)
            · rcases List.mem_append.mp hzm with hzm | hzm
              · have hk2 := sk _ _ (hz z hzm).1
                exact ⟨by rw [upd_ne (ne_tl hk2 hDk)]; exact hk2, (hz z hzm).2⟩
              · rw [List.mem_singleton.mp hzm]
                refine ⟨by rw [upd_ne (ne_tl hq hDk)]; exact hq, by show (0 : Int) ≤ (j : Int); omega, by show (j : Int) < b; omega, nmin⟩
          · rintro Hd ⟨sd, _, zs, hD, hz, hzl⟩
            have pl2 : PL b ns Hd D := ⟨zs, hD, hz, by omega⟩
            refine ⟨_, rfl, (by show 2 ≤ sizeLine; decide), fun q3 He s4 h3 => ?_⟩
            refine ⟨_, rfl, _, _, rfl, rfl, _, rfl, (by show 2 ≤ sizeLine; decide), fun q4 Hf s5 h4 => ⟨(by show 2 ≤ sizeLine; decide), fun l3 Hg s6 _ g3 => ?_⟩⟩
            refine ⟨(by show 3 ≤ sizeLine; decide), fun sm Hh s7 _ hsm => ?_⟩
            have pl3 : PL b ns Hg l3 := PL.two (x := (0, ot)) (y := (b - 1, nm)) g3 (s6 _ _ (s5 _ _ h3)) (s6 _ _ h4) ⟨Int.le_refl 0, by show (0 : Int) < b; omega, otin⟩ ⟨by show (0 : Int) ≤ b - 1; omega, by show b - 1 < b; omega, nmin⟩
            have sdh : Same Hd Hh := ((s4.trans s5).trans s6).trans s7
            refine ⟨sm, [l1, D, l3], rfl, (sc.trans sd).trans sdh, hsm, fun a ha => ?_, rfl⟩
            rcases List.mem_cons.mp ha with rfl | ha
            · exact pl1.same (sd.trans sdh)
            rcases List.mem_cons.mp ha with rfl | ha
            · exact pl2.same sdh
            · rw [List.mem_singleton.mp ha]; exact pl3.same s7
        rintro σ H8 ⟨sm, as, rfl, s8, hsm, hpl, hal⟩
        refine ⟨fun σ H9 => ∃ (sm : Addr) (as : List Addr), σ = [some (.ref p), some (.int b), some (.ref ln), some (.int most), some (.ref r), some (.str nm), some (.str ot), some (.int d), some (.int e'), some (.int wy), some v, some (.ref sm), none, none] ∧ Same H7 H9 ∧ H9 sm = some (.lst (as.map V.ref)) ∧ (∀ a ∈ as, PL b ns H9 a) ∧ as.length = 6, ?_, ?_⟩
        · refine ⟨_, rfl, ?_⟩
          refine ⟨_, rfl, _, rfl, (by show 2 ≤ sizeLine; decide), fun q1 Ha s1 h1 => ⟨(by show 1 ≤ sizeLine; decide), fun l1 Hb s2 _ g1 => ?_⟩⟩
          refine ⟨_, rfl, _, rfl, (by show 2 ≤ sizeLine; decide), fun q2 Hc s3 h2 => ?_⟩
          refine ⟨_, rfl, _, rfl, (by show 2 ≤ sizeLine; decide), fun q3 Hd s4 h3 => ⟨(by show 2 ≤ sizeLine; decide), fun l2 He s5 _ g2 => ?_⟩⟩
          refine ⟨_, rfl, _, rfl, (by show 2 ≤ sizeLine; decide), fun q4 Hf s6 h4 => ?_⟩
          refine ⟨_, rfl, _, rfl, (by show 2 ≤ sizeLine; decide), fun q5 Hg s7 h5 => ⟨(by show 2 ≤ sizeLine; decide), fun l3 Hh s9 _ g3 => ?_⟩⟩
          refine ⟨(by show 3 ≤ sizeLine; decide), fun sn Hi s10 _ hsn => ?_⟩
          have p1 : PL b ns Hb l1 := PL.one (x := (d, nm)) g1 (s2 _ _ h1) dn
          have p2 : PL b ns He l2 := PL.two (x := (d, nm)) (y := (e', ot)) g2 (s5 _ _ (s4 _ _ h2)) (s5 _ _ h3) dn eob
          have p3 : PL b ns Hh l3 := PL.two (x := (d, ot)) (y := (d, nm)) g3 (s9 _ _ (s7 _ _ h4)) (s9 _ _ h5) dob dn
          have sbe : Same Hb He := (s3.trans s4).trans s5
          have seh : Same He Hh := (s6.trans s7).trans s9
          have s8i : Same H8 Hi := (((s1.trans s2).trans sbe).trans seh).trans s10
          refine ⟨sm, sn, _, _, rfl, rfl, s8i _ _ hsm, hsn, by rw [List.length_map, hal]; show 3 + 3 ≤ sizeLine; decide, fun sx nx => ?_⟩
          have sx' : Same Hi (upd Hi sx (.lst (as.map V.ref ++ [V.ref l1, V.ref l2, V.ref l3]))) := Same.upd nx
          refine ⟨sx, as ++ [l1, l2, l3], rfl, (s8.trans s8i).trans sx', by rw [upd_same, List.map_append]; rfl, fun a ha => ?_, by rw [List.length_append, hal]; rfl⟩
          refine PL.same ?_ sx'
          rcases List.mem_append.mp ha with ha | ha
          · exact (hpl a ha).same s8i
          rcases List.mem_cons.mp ha with rfl | ha
          · exact p1.same ((sbe.trans seh).trans s10)
          rcases List.mem_cons.mp ha with rfl | ha
          · exact p2.same (seh.trans s10)
          · rw [List.mem_singleton.mp ha]; exact p3.same s10
        rintro σ H9 ⟨sm, as, rfl, s9, hsm, hpl, hal⟩
        obtain ⟨la, lain, hla⟩ := adr_at (as := as) (i := wy - 5 - 1) (by omega) (by rw [hal]; omega)
        obtain ⟨zs, hz1, hz2, hz3⟩ := (hpl la lain).ex
        have ewy : wy - 6 = wy - 5 - 1 := by omega
        rw [← ewy] at hla
        refine ⟨_, rfl, _, rfl, _, _, rfl, rfl, sm, _, _, _, rfl, rfl, SqL.of hsm, hla, ?_⟩
        refine ⟨la, rfl, ⟨_, SqL.of hz1⟩, fun D nD => ?_⟩
        refine lc_it (walk_list (K := K) (a := la) (xs := zs.map fun z => V.ref z.1)) (fun j Hi => Same H9 Hi ∧ ∃ ws : List (Addr × Addr × (Int × Str)), Hi D = some (.lst (ws.map fun z => V.ref z.1)) ∧ (∀ z ∈ ws, (Hi z.1 = some (.tup [.ref z.2.1, .bl true]) ∧ Hi z.2.1 = some (.tup (pv2 z.2.2))) ∧ InB b ns z.2.2) ∧ ws.length = j)
          ⟨Same.upd nD, [], upd_same, (fun _ h => nomatch h), rfl⟩ (fun j Hi _ q => SqL.of (q.1 _ _ hz1)) ?_ ?_
        · rintro j x Hi Hj hj ⟨sj, ws, hD, hw, hwl⟩ ⟨rfl, hx⟩
          rw [List.length_map] at hj
          rw [List.getElem?_map] at hx
          obtain ⟨z, hzj, rfl⟩ := Option.map_eq_some_iff.mp hx
          have zin := List.mem_of_getElem? hzj
          refine ⟨rfl, ?_⟩
          refine ⟨_, rfl, (by show 2 ≤ sizeLine; decide), fun q Hk sk hq => ?_⟩
          have hDk := sk _ _ hD
          have zk := sk _ _ (sj _ _ (hz2 z zin).1)
          refine ⟨_, hDk, by rw [List.length_map, sizeLine_eq]; omega, fun c o hc => ?_, ws ++ [(q, z.1, z.2)], by rw [upd_same, List.map_append]; rfl, fun y hy => ?_, by rw [List.length_append, hwl]; rfl⟩
          · rw [upd_ne (ne_of_none hc nD)]
            exact sk _ _ (sj c o hc)
          · rcases List.mem_append.mp hy with hy | hy
            · have h1 := sk _ _ (hw y hy).1.1
              have h2 := sk _ _ (hw y hy).1.2
              exact ⟨⟨by rw [upd_ne (ne_tl h1 hDk)]; exact h1, by rw [upd_ne (ne_tl h2 hDk)]; exact h2⟩, (hw y hy).2⟩
            · rw [List.mem_singleton.mp hy]
              exact ⟨⟨by rw [upd_ne (ne_tl hq hDk)]; exact hq, by rw [upd_ne (ne_tl zk hDk)]; exact zk⟩, (hz2 z zin).2⟩
        · rintro Hi ⟨si, ws, hD, hw, hwl⟩
          rw [List.length_map] at hwl
          refine ⟨D, ws, rfl, SqL.of hD, fun z hz => (hw z hz).1, by omega, fun dd ndd => ?_⟩
          have kin := (KeysIn.nil (S := InB b ns)).merge (.bl true) (L := ws.map fun z => z.2.2) fun x hx => by
            obtain ⟨z, hz, rfl⟩ := List.mem_map.mp hx
            exact (hw z hz).2
          rw [List.map_map, List.length_map] at kin
          obtain ⟨ps, k1, k2, k3⟩ := kin.ex
          refine ⟨dd, _, ps, rfl, upd_same, k1, fun us l hp hu' nl => ?_⟩
          refine ⟨l, _, rfl, .inl ⟨SqL.of upd_same, fun q nq => ?_⟩⟩
          have sdd : Same Hi (upd Hi dd (.dT (mergeT [] (ws.map fun z => (pk z.2.2, V.bl true))))) := Same.upd ndd
          have sll : Same (upd Hi dd (.dT (mergeT [] (ws.map fun z => (pk z.2.2, V.bl true))))) (upd (upd Hi dd (.dT (mergeT [] (ws.map fun z => (pk z.2.2, V.bl true))))) l (.lst (us.map fun z => V.ref z.1))) := Same.upd nl
          have s7l := ((s9.trans si).trans sdd).trans sll
          have m9 := (m7.more s7l).all
          have g79 := alls_gg (m7.more s7l).gh
          have hul : ∀ z ∈ us, (upd (upd Hi dd (.dT (mergeT [] (ws.map fun z => (pk z.2.2, V.bl true))))) l (.lst (us.map fun z => V.ref z.1))) z.1 = some (.tup (pv2 z.2)) := fun z hz => sll _ _ (hu' z hz)
          have r9 := s7l _ _ r7
          have P9 := P7.same s7l (Nat.le_refl _)
          generalize upd (upd Hi dd (.dT (mergeT [] (ws.map fun z => (pk z.2.2, V.bl true))))) l (.lst (us.map fun z => V.ref z.1)) = H10 at m9 g79 hul r9 P9 nq s7l
          have g9r : alls G7 H10 r = none := by rw [alls_no (fun ys z => by rw [r9] at z; cases z)]; exact g7r
          have nwq := Nw.mk1 m9.gh nq (.tup (us.map fun z => V.ref z.1))
          have rq : r ≠ q := ne_of_none r9 nq
          refine ⟨.ref q, us.map (·.2), _, _, rfl, m9.trans (Mw.nw nwq P9), g79.trans nwq.gg, P9.same (Same.upd nq) (Nat.le_refl _), by rw [upd_ne rq]; exact r9, by rw [upd_ne rq]; exact g9r, ?_, fun x hx => k2 x (hp.mem_iff.mp hx), by rw [hp.length_eq]; omega⟩
          refine .tup upd_same (dq_zs fun z hzm => ?_)
          rw [upd_ne (fun w' => by have h1 := hul z hzm; rw [w', nq] at h1; cases h1)]
          exact alls_tup (hul z hzm)
      · rintro σ H8 ⟨v', row', G8, y11', rfl, m8, g78, P8, r8, g8r, dqv8, rin8⟩
        refine ⟨_, rfl, _, rfl, _, rfl, r, _, rfl, DPut.k (k := Sum.inr nm) r8 ?_, ?_⟩
        · have h1 := congrArg List.length hk
          rw [List.length_map, List.length_map, List.length_take] at h1
          rw [sizeLine_eq]; omega
        rw [put_new hk (take_new nok.nod hnm)]
        refine ⟨⟨_, _, _, _, _, _, _, rfl⟩, P8.upd rp rc (Nat.le_refl _) _, hi', G8, _, rws ++ [row'], m8.own nr g8r rp, upd_same, g8r, ?_, ?_, fun x hx => ?_, by rw [List.length_append, hlen]; rfl⟩
        · rw [List.map_append, hk, List.take_add_one, hnm, List.map_append]; rfl
        · rw [List.map_append, List.map_append]
          exact dqApp (dq7.mono g78) (.cons dqv8 .nil)
        · rcases List.mem_append.mp hx with hx | hx
          · exact hin x hx
          · rw [List.mem_singleton.mp hx]; exact rin8
    · rintro σ H2 ⟨⟨y5, y6, y7, y8, y9, y10, y11, rfl⟩, P2, _, G2, kvs, rws, m, hrk, g2r, hk, hdq, hin, hlen⟩
      rw [List.length_map] at hk hlen P2
      refine ⟨_, rfl, _, rfl, (by show 2 ≤ sizeLine; decide), fun q nq => ?_⟩
      have m1 := m.stand nr hrk
      have m2 := m1.trans (Mw.nw (Nw.mk1 m1.gh nq (.tup [.int b, .ref r])) P2)
      refine k (.ref q) rws _ _ m2 (P2.same (Same.upd nq) (Nat.le_refl _)) ?_ ⟨b0, b1, n0, n8, nok.nod, nok.ok, hlen, hin⟩
      have rq : r ≠ q := ne_of_none hrk nq
      refine .tup upd_same (.cons (.int _) (.cons ?_ .nil))
      rw [List.take_length] at hk
      refine .dct (kvs := kvs) (by rw [upd_ne rq]; exact upd_same) (dqKeys hk hlen) ?_
      rw [zipVals hlen]
      exact (hdq.mono (Same.upd g2r)).mono (Nw.mk1 m1.gh nq (.tup [.int b, .ref r])).gg
end
end My

namespace My
open PySem PySem.Spec PyProof.Rows L2
/-! ### one rising order -/
def le' (a b : Str) : Prop := tl a ≤ tl b
theorem rising_pw : ∀ (p : Str) (l : List Str), risingS p l = true → (p :: l).Pairwise le'
  | p, [], _ => List.pairwise_singleton _ _
  | p, x :: r, h => by
    have h1 : (!ltCps x.cps.toList p.cps.toList && risingS x r) = true := h
    rw [Bool.and_eq_true] at h1
    have h2 : ¬ tl x < tl p := by
      have := h1.1
      rw [ltCps_eq] at this
      simpa using this
    have ih := rising_pw x r h1.2
    refine List.pairwise_cons.mpr ⟨fun y hy => ?_, ih⟩
    have px : tl p ≤ tl x := List.not_lt.mp h2
    rcases List.mem_cons.mp hy with rfl | hy
    · exact px
    · exact List.le_trans px ((List.pairwise_cons.mp ih).1 y hy)
theorem sorted_pw (l : List Str) (h : sortedS l = true) : l.Pairwise le' := by
  cases l with
  | nil => exact List.Pairwise.nil
  | cons x r => exact rising_pw x r h
theorem sorted_one {xs ys : List Str} (h : xs.Perm ys) (hx : sortedS xs = true) (hy : sortedS ys = true) : xs = ys :=
  List.Perm.eq_of_pairwise (le := le') (fun a b _ _ h1 h2 => by
    have := List.le_antisymm h1 h2
    rw [← ofL_tl a, ← ofL_tl b, this]) (sorted_pw xs hx) (sorted_pw ys hy) h
/-! ### ways -/
def rowAt (ns : List Str) (rws : List (List (Int × Str))) (x : Str) : List (Int × Str) := rws.getD (ns.idxOf x) []
def Ed (ns : List Str) (rws : List (List (Int × Str))) (x y : Str) : Prop := ∃ q ∈ rowAt ns rws x, q.2 = y
theorem rowAt_mem {ns : List Str} {rws : List (List (Int × Str))} {x : Str} {q : Int × Str} (h : q ∈ rowAt ns rws x) : rowAt ns rws x ∈ rws := by
  unfold rowAt at h ⊢
  rw [List.getD_eq_getElem?_getD] at h ⊢
  cases e : rws[ns.idxOf x]? with
  | none => rw [e] at h; exact nomatch h
  | some r => exact List.mem_of_getElem? e
theorem BookOk.inb {b : Int} {ns : List Str} {rws : List (List (Int × Str))} (B : BookOk b ns rws) {x : Str} {q : Int × Str} (h : q ∈ rowAt ns rws x) : InB b ns q := (B.rows _ (rowAt_mem h)).mem q h
theorem rowAt_len {b : Int} {ns : List Str} {rws : List (List (Int × Str))} (B : BookOk b ns rws) (x : Str) : (rowAt ns rws x).length ≤ 12 := by
  cases e : rowAt ns rws x with
  | nil => simp
  | cons q r => rw [← e]; exact (B.rows _ (rowAt_mem (q := q) (by rw [e]; exact List.mem_cons_self))).len
theorem get_row {K : PySem.W.Frag} {G : Hp} : ∀ {kvs : List (Key × V)} {ns : List Str} {rws : List (List (Int × Str))} {x : Str}, kvs.map (·.1) = ns.map Sum.inr → DqAll K G (kvs.map (·.2)) (rws.map rowD) → x ∈ ns →
    ∃ v, valV kvs (Sum.inr x) = some v ∧ Dq K G v (rowD (rowAt ns rws x))
  | [], [], _, _, _, _, h => nomatch h
  | [], _ :: _, _, _, h, _, _ => nomatch h
  | _ :: _, [], _, _, h, _, _ => nomatch h
  | (k, v) :: kvs, n :: ns, rws, x, hk, hd, hx => by
    injection hk with h1 h2
    have h1' : k = Sum.inr n := h1
    subst h1'
    cases rws with
    | nil => cases hd
    | cons row rws =>
      cases hd with
      | cons d1 d2 =>
        by_cases e : n = x
        · subst e
          refine ⟨v, valV_pos (p := (Sum.inr n, v)) rfl, ?_⟩
          have : rowAt (n :: ns) (row :: rws) n = row := by unfold rowAt; simp
          rw [this]; exact d1
        · have hx' : x ∈ ns := (List.mem_cons.mp hx).resolve_left (Ne.symm e)
          obtain ⟨u, g1, g2⟩ := get_row h2 d2 hx'
          refine ⟨u, by rw [valV_neg (p := (Sum.inr n, v)) (fun z => e (Sum.inr.inj z))]; exact g1, ?_⟩
          have : rowAt (n :: ns) (row :: rws) x = rowAt ns rws x := by
            unfold rowAt
            have hb : (n == x) = false := by simpa using e
            rw [List.idxOf_cons, hb]
            simp
          rw [this]; exact g2
abbrev Bh (ns : List Str) (rws : List (List (Int × Str))) : Str → Str → Prop := Relation.TransGen (Ed ns rws)
theorem bh_in {b : Int} {ns : List Str} {rws : List (List (Int × Str))} (B : BookOk b ns rws) {x y : Str} (h : Bh ns rws x y) : y ∈ ns := by
  cases h with
  | single h => obtain ⟨q, hq, rfl⟩ := h; exact (B.inb hq).2.2
  | tail _ h => obtain ⟨q, hq, rfl⟩ := h; exact (B.inb hq).2.2
theorem bh_head {E : Str → Str → Prop} {x y : Str} (h : Relation.TransGen E x y) : ∃ z, E x z ∧ (z = y ∨ Relation.TransGen E z y) := by
  induction h with
  | single h => exact ⟨_, h, .inl rfl⟩
  | tail _ h ih =>
    obtain ⟨z, h1, h2⟩ := ih
    refine ⟨z, h1, .inr ?_⟩
    rcases h2 with rfl | h2
    · exact .single h
    · exact h2.tail h
/-- from which one can go on without end -/
def Lv (ns : List Str) (rws : List (List (Int × Str))) (x : Str) : Prop := ∃ o, (o = x ∨ Bh ns rws x o) ∧ Bh ns rws o o
theorem lv_on {ns : List Str} {rws : List (List (Int × Str))} {x : Str} (h : Lv ns rws x) : ∃ y, Ed ns rws x y ∧ Lv ns rws y := by
  obtain ⟨o, h1, h2⟩ := h
  have key : Bh ns rws x o := by
    rcases h1 with rfl | h1
    · exact h2
    · exact h1
  obtain ⟨y, g1, g2⟩ := bh_head key
  refine ⟨y, g1, o, ?_, h2⟩
  rcases g2 with rfl | g2
  · exact .inl rfl
  · exact .inr g2
theorem pigeonQ : ∀ (n : Nat) (l : List Nat), l.Nodup → (∀ x ∈ l, x < n) → l.length ≤ n
  | 0, l, _, h => by
    cases l with
    | nil => simp
    | cons x r => exact absurd (h x List.mem_cons_self) (Nat.not_lt_zero _)
  | n + 1, l, hn, h => by
    have ih := pigeonQ n (l.erase n) (hn.erase n) fun x hx => by
      obtain ⟨h1, h2⟩ := (List.Nodup.mem_erase_iff hn).mp hx
      have := h x h2
      omega
    by_cases hm : n ∈ l
    · rw [List.length_erase_of_mem hm] at ih
      omega
    · rw [List.erase_of_not_mem hm] at ih
      omega
theorem lv_of_closed {ns : List Str} {rws : List (List (Int × Str))} {L : List Str} (hL : ∀ x ∈ L, ∃ y ∈ L, Ed ns rws x y) {x : Str} (hx : x ∈ L) : Lv ns rws x := by
  have ch : ∃ s : Nat → {y // y ∈ L}, (s 0).1 = x ∧ ∀ k, Ed ns rws (s k).1 (s (k + 1)).1 := by
    have nx : ∀ y : {y // y ∈ L}, ∃ z : {y // y ∈ L}, Ed ns rws y.1 z.1 := fun y => by
      obtain ⟨z, h1, h2⟩ := hL y.1 y.2
      exact ⟨⟨z, h1⟩, h2⟩
    refine ⟨fun k => Nat.rec ⟨x, hx⟩ (fun _ y => Classical.choose (nx y)) k, rfl, fun k => Classical.choose_spec (nx _)⟩
  obtain ⟨s, s0, sk⟩ := ch
  have up : ∀ i d, Bh ns rws (s i).1 (s (i + d + 1)).1 := fun i d => by
    induction d with
    | zero => exact .single (sk i)
    | succ d ih => exact ih.tail (sk _)
  have rep : ∃ i j, i < j ∧ (s i).1 = (s j).1 := by
    refine Classical.byContradiction fun hno => ?_
    have nod : ((List.range (L.length + 1)).map fun i => L.idxOf (s i).1).Nodup := nodup_of fun i j h1 _ e => hno ⟨i, j, h1, by
      have e1 := List.getElem_idxOf (List.idxOf_lt_length_iff.mpr (s i).2)
      have e2 := List.getElem_idxOf (List.idxOf_lt_length_iff.mpr (s j).2)
      rw [← e1, ← e2]
      simp only [e]⟩
    have := pigeonQ L.length _ nod fun y hy => by
      obtain ⟨i, _, rfl⟩ := List.mem_map.mp hy
      exact List.idxOf_lt_length_iff.mpr (s i).2
    rw [List.length_map, List.length_range] at this
    omega
  obtain ⟨i, j, hij, e⟩ := rep
  refine ⟨(s i).1, ?_, ?_⟩
  · cases i with
    | zero => exact .inl s0
    | succ i =>
      have := up 0 i
      rw [s0, Nat.zero_add] at this
      exact .inr this
  · have := up i (j - i - 1)
    rw [show i + (j - i - 1) + 1 = j by omega, ← e] at this
    exact this
/-- one turn of live -/
def stp (ns : List Str) (rws : List (List (Int × Str))) (L : List Str) : List Str := L.filter fun x => (rowAt ns rws x).any fun q => decide (q.2 ∈ L)
structure LiveAt (ns : List Str) (rws : List (List (Int × Str))) (S L : List Str) : Prop where
  ex : ∃ P : Str → Bool, L = S.filter P ∧ ∀ x ∈ S, Lv ns rws x → P x = true
theorem LiveAt.start {ns : List Str} {rws : List (List (Int × Str))} {S : List Str} : LiveAt ns rws S S := ⟨fun _ => true, (List.filter_eq_self.mpr fun _ _ => rfl).symm, fun _ _ _ => rfl⟩
theorem LiveAt.step {b : Int} {ns : List Str} {rws : List (List (Int × Str))} (B : BookOk b ns rws) {S L : List Str} (hS : ∀ x, x ∈ S ↔ x ∈ ns) (h : LiveAt ns rws S L) : LiveAt ns rws S (stp ns rws L) := by
  obtain ⟨P, rfl, hP⟩ := h.ex
  refine ⟨fun x => P x && (rowAt ns rws x).any fun q => decide (q.2 ∈ S.filter P), ?_, fun x hx hl => ?_⟩
  · unfold stp
    rw [List.filter_filter]
    refine List.filter_congr fun x _ => ?_
    rw [Bool.and_comm]
  · rw [Bool.and_eq_true]
    refine ⟨hP x hx hl, ?_⟩
    obtain ⟨y, ⟨q, hq, rfl⟩, hy⟩ := lv_on hl
    have hyn : q.2 ∈ S := (hS _).mpr (B.inb hq).2.2
    exact List.any_eq_true.mpr ⟨q, hq, decide_eq_true (List.mem_filter.mpr ⟨hyn, hP _ hyn hy⟩)⟩
theorem LiveAt.fix {ns : List Str} {rws : List (List (Int × Str))} {S L : List Str} (h : LiveAt ns rws S L) (e : stp ns rws L = L) : ∀ x, x ∈ L ↔ x ∈ S ∧ Lv ns rws x := by
  obtain ⟨P, hL, hP⟩ := h.ex
  have cl : ∀ x ∈ L, ∃ y ∈ L, Ed ns rws x y := fun x hx => by
    rw [← e] at hx
    obtain ⟨_, h2⟩ := List.mem_filter.mp hx
    obtain ⟨q, hq, h3⟩ := List.any_eq_true.mp h2
    exact ⟨q.2, of_decide_eq_true h3, q, hq, rfl⟩
  intro x
  refine ⟨fun hx => ⟨?_, lv_of_closed cl hx⟩, fun ⟨h1, h2⟩ => ?_⟩
  · rw [hL] at hx; exact (List.mem_filter.mp hx).1
  · rw [hL]; exact List.mem_filter.mpr ⟨h1, hP x h1 h2⟩
theorem LiveAt.fixF {ns : List Str} {rws : List (List (Int × Str))} {S L : List Str} (h : LiveAt ns rws S L) (e : stp ns rws L = L) {D : Str → Bool} (hD : ∀ x ∈ S, (D x = true ↔ Lv ns rws x)) : L = S.filter D := by
  have hf := h.fix e
  obtain ⟨P, hL, hP⟩ := h.ex
  rw [hL]
  refine List.filter_congr fun x hx => ?_
  have h1 : P x = true ↔ D x = true := by
    rw [hD x hx]
    refine ⟨fun z => ((hf x).mp (by rw [hL]; exact List.mem_filter.mpr ⟨hx, z⟩)).2, hP x hx⟩
  cases q : P x <;> cases r : D x <;> simp_all
theorem stp_less {ns : List Str} {rws : List (List (Int × Str))} {L : List Str} (h : stp ns rws L ≠ L) : (stp ns rws L).length < L.length := by
  refine Nat.lt_of_le_of_ne (List.length_filter_le _ _) fun z => h ?_
  exact List.filter_eq_self.mpr (List.length_filter_eq_length_iff.mp z)
end My

namespace My
open PySem PySem.Spec PyProof.Rows L2
abbrev sBehind : Stmt := topS 11
theorem inV_str (r : Str) (l : List Str) : inV (.str r) (l.map V.str) = decide (r ∈ l) := by
  unfold inV
  rw [List.any_map]
  induction l with
  | nil => rfl
  | cons x l ih =>
    rw [List.any_cons, ih]
    by_cases h : r = x
    · subst h
      simp [eqV]
    · have h1 : (x == r) = false := beq_eq_false_iff_ne.mpr fun z => h z.symm
      show ((x == r) || decide (r ∈ l)) = decide (r ∈ x :: l)
      rw [h1, Bool.false_or]
      exact decide_eq_decide.mpr ⟨fun z => List.mem_cons_of_mem _ z, fun z => (List.mem_cons.mp z).resolve_left h⟩
theorem flat_strs (l : List Str) : (l.map V.str).all flatV = true := by
  rw [List.all_map]
  exact List.all_eq_true.mpr fun _ _ => rfl
theorem dp_strs {K : PySem.W.Frag} {H : Hp} : ∀ l : List Str, DpAll K H (l.map V.str) (l.map PyData.str)
  | [] => .nil
  | x :: l => .cons (.str x) (dp_strs l)
theorem dp_sl {K : PySem.W.Frag} {H : Hp} {a : Addr} {l : List Str} (h : H a = some (.lst (l.map V.str))) : Dp K H (.ref a) (.list (l.map PyData.str)) := .lst (SqL.of h) (dp_strs l)
theorem eqv_strs : ∀ l m : List Str, PyData.eqvAll (l.map PyData.str) (m.map PyData.str) = decide (l = m)
  | [], [] => rfl
  | [], _ :: _ => rfl
  | _ :: _, [] => rfl
  | x :: l, y :: m => by
    show (PyData.eqv (.str x) (.str y) && PyData.eqvAll (l.map PyData.str) (m.map PyData.str)) = _
    rw [eqv_strs l m]
    simp only [PyData.eqv]
    by_cases h1 : x = y <;> by_cases h2 : l = m <;> simp [h1, h2]
theorem eqv_sl (l m : List Str) : PyData.eqv (.list (l.map PyData.str)) (.list (m.map PyData.str)) = decide (l = m) := by
  simp only [PyData.eqv]
  exact eqv_strs l m
theorem strOk_lets {x : Str} (h : Lets (tl x)) : PyData.strOk x = true := by
  unfold PyData.strOk
  rw [← Array.all_toList]
  exact List.all_eq_true.mpr fun c hc => decide_eq_true (by have := h c hc; omega)
theorem shaped_sl (l : List Str) (h : ∀ x ∈ l, Lets (tl x)) : SeqAt.shaped (.list (l.map PyData.str)) = true := by
  have h1 : PyData.canLayAll0 (l.map PyData.str) = true := by
    induction l with
    | nil => simp [PyData.canLayAll0]
    | cons x r ih => simp only [List.map_cons, PyData.canLayAll0, PyData.canLay0, ih fun y hy => h y (List.mem_cons_of_mem _ hy), strOk_lets (h x List.mem_cons_self), Bool.and_true]
  have h2 : PyData.depthAll (l.map PyData.str) = 0 := by
    clear h1 h
    induction l with
    | nil => simp only [List.map_nil, PyData.depthAll]
    | cons x r ih => simp only [List.map_cons, PyData.depthAll, PyData.depth, ih]; rfl
  unfold SeqAt.shaped
  simp only [PyData.canLay0, PyData.depth, h1, h2]
  rfl
theorem nod_len {F ns : List Str} (h : F.Nodup) (hs : ∀ x ∈ F, x ∈ ns) : F.length ≤ ns.length := by
  have nod : (F.map fun x => ns.idxOf x).Nodup := by
    refine List.pairwise_map.mpr (List.Pairwise.imp_of_mem (R := (· ≠ ·)) (fun {x y} hx hy hne e => hne ?_) h)
    have e1 := List.getElem_idxOf (List.idxOf_lt_length_iff.mpr (hs x hx))
    have e2 := List.getElem_idxOf (List.idxOf_lt_length_iff.mpr (hs y hy))
    rw [← e1, ← e2]
    simp only [e]
  have := pigeonQ ns.length _ nod fun y hy => by
    obtain ⟨x, hx, rfl⟩ := List.mem_map.mp hy
    exact List.idxOf_lt_length_iff.mpr (hs x hx)
  rwa [List.length_map] at this
/-! ### what stands behind a name -/
structure BSt (ns : List Str) (rws : List (List (Int × Str))) (nm : Str) (F T : List Str) : Prop where
  nod : F.Nodup
  bh : ∀ y ∈ F, Bh ns rws nm y
  td : ∀ y ∈ T, y = nm ∨ y ∈ F
  cl : ∀ z, (z = nm ∨ z ∈ F) → z ∉ T → ∀ q ∈ rowAt ns rws z, q.2 ∈ F
structure BRow (ns : List Str) (rws : List (List (Int × Str))) (nm x : Str) (i : Nat) (F T : List Str) : Prop where
  nod : F.Nodup
  bh : ∀ y ∈ F, Bh ns rws nm y
  td : ∀ y ∈ T, y = nm ∨ y ∈ F
  cl : ∀ z, (z = nm ∨ z ∈ F) → z ∉ T → z ≠ x → ∀ q ∈ rowAt ns rws z, q.2 ∈ F
  dn : ∀ q ∈ (rowAt ns rws x).take i, q.2 ∈ F
  xb : x = nm ∨ x ∈ F
section
variable {ns : List Str} {rws : List (List (Int × Str))} {nm x : Str} {F T : List Str} {i : Nat}
theorem BSt.start : BSt ns rws nm [] [nm] := ⟨List.nodup_nil, (fun _ h => nomatch h), fun y hy => .inl (List.mem_singleton.mp hy), fun z h n => by
  rcases h with rfl | h
  · exact absurd List.mem_cons_self n
  · exact nomatch h⟩
theorem BSt.fin (h : BSt ns rws nm F []) (y : Str) : y ∈ F ↔ Bh ns rws nm y := by
  refine ⟨h.bh y, fun g => ?_⟩
  induction g with
  | single e => obtain ⟨q, hq, rfl⟩ := e; exact h.cl nm (.inl rfl) (fun z => nomatch z) q hq
  | tail _ e ih => obtain ⟨q, hq, rfl⟩ := e; exact h.cl _ (.inr ih) (fun z => nomatch z) q hq
theorem BSt.pop (h : BSt ns rws nm F (T ++ [x])) : BRow ns rws nm x 0 F T :=
  ⟨h.nod, h.bh, fun y hy => h.td y (List.mem_append_left _ hy), fun z hz n1 n2 => h.cl z hz fun w => (List.mem_append.mp w).elim n1 fun w => n2 (List.mem_singleton.mp w), (fun _ h => nomatch h), h.td x (List.mem_append_right _ List.mem_cons_self)⟩
theorem BRow.done (h : BRow ns rws nm x (rowAt ns rws x).length F T) : BSt ns rws nm F T :=
  ⟨h.nod, h.bh, h.td, fun z hz n => by
    by_cases e : z = x
    · subst e
      have := h.dn
      rw [List.take_length] at this
      exact this
    · exact h.cl z hz n e⟩
theorem BRow.seen (h : BRow ns rws nm x i F T) {q : Int × Str} (hq : (rowAt ns rws x)[i]? = some q) (m : q.2 ∈ F) : BRow ns rws nm x (i + 1) F T :=
  ⟨h.nod, h.bh, h.td, h.cl, fun p hp => by
    rw [List.take_add_one, hq] at hp
    rcases List.mem_append.mp hp with hp | hp
    · exact h.dn p hp
    · rw [List.mem_singleton.mp hp]; exact m, h.xb⟩
theorem BRow.new (h : BRow ns rws nm x i F T) {q : Int × Str} (hq : (rowAt ns rws x)[i]? = some q) (m : q.2 ∉ F) : BRow ns rws nm x (i + 1) (F ++ [q.2]) (T ++ [q.2]) := by
  have ed : Ed ns rws x q.2 := ⟨q, List.mem_of_getElem? hq, rfl⟩
  refine ⟨?_, fun y hy => ?_, fun y hy => ?_, fun z hz n1 n2 p hp => ?_, fun p hp => ?_, h.xb.imp id fun w => List.mem_append_left _ w⟩
  · refine List.nodup_append.mpr ⟨h.nod, List.pairwise_singleton _ _, fun a ha b hb e => ?_⟩
    rw [List.mem_singleton.mp hb] at e
    exact m (e ▸ ha)
  · rcases List.mem_append.mp hy with hy | hy
    · exact h.bh y hy
    · rw [List.mem_singleton.mp hy]
      rcases h.xb with e | e
      · rw [← e]; exact .single ed
      · exact (h.bh x e).tail ed
  · rcases List.mem_append.mp hy with hy | hy
    · exact (h.td y hy).imp id fun w => List.mem_append_left _ w
    · exact .inr (List.mem_append_right _ hy)
  · refine List.mem_append_left _ (h.cl z ?_ (fun w => n1 (List.mem_append_left _ w)) n2 p hp)
    rcases hz with hz | hz
    · exact .inl hz
    · rcases List.mem_append.mp hz with hz | hz
      · exact .inr hz
      · exact absurd (List.mem_append_right _ hz) n1
  · rw [List.take_add_one, hq] at hp
    rcases List.mem_append.mp hp with hp | hp
    · exact List.mem_append_left _ (h.dn p hp)
    · rw [List.mem_singleton.mp hp]; exact List.mem_append_right _ List.mem_cons_self
end
/-- the rows of a book, standing -/
structure RowsAt (K : PySem.W.Frag) (G : Hp) (rr : Addr) (ns : List Str) (rws : List (List (Int × Str))) : Prop where
  ex : ∃ kvs : List (Key × V), G rr = some (.dK kvs) ∧ kvs.map (·.1) = ns.map Sum.inr ∧ DqAll K G (kvs.map (·.2)) (rws.map rowD)
theorem RowsAt.mono {K : PySem.W.Frag} {G G' : Hp} {rr : Addr} {ns : List Str} {rws : List (List (Int × Str))} (h : RowsAt K G rr ns rws) (e : Same G G') : RowsAt K G' rr ns rws := by
  obtain ⟨kvs, h1, h2, h3⟩ := h.ex
  exact ⟨kvs, e _ _ h1, h2, h3.mono e⟩
theorem dq_row {K : PySem.W.Frag} {G : Hp} {v : V} {row : List (Int × Str)} (h : Dq K G v (rowD row)) : ∃ a as, v = .ref a ∧ G a = some (.tup as) ∧ as.length = row.length ∧ ∀ (i : Nat) (q : Int × Str), row[i]? = some q → ∃ c, as[i]? = some (.ref c) ∧ G c = some (.tup (pv2 q)) := by
  cases h with
  | tup h1 h2 =>
    refine ⟨_, _, rfl, h1, by have := h2.len; rw [List.length_map] at this; exact this, ?_⟩
    clear h1
    generalize hd : (row.map fun q => PyData.tuple [.int q.1, .str q.2]) = ds at h2
    intro i q hq
    have hds : ds[i]? = some (.tuple [.int q.1, .str q.2]) := by rw [← hd, List.getElem?_map, hq]; rfl
    clear hd hq
    rename_i xs
    induction i generalizing xs ds with
    | zero =>
      cases h2 with
      | nil => cases hds
      | cons a b =>
        have e := Option.some.inj hds
        subst e
        cases a with
        | tup g1 g2 =>
          cases g2 with
          | cons g2 g3 =>
            cases g2
            cases g3 with
            | cons g3 g4 => cases g3; cases g4; exact ⟨_, rfl, g1⟩
    | succ i ih =>
      cases h2 with
      | nil => cases hds
      | cons a b => exact ih _ b hds
def spBehind (K : PySem.W.Frag) : Sp := fun vs H Q _ => ∃ (rr : Addr) (nm : Str) (b : Int) (ns : List Str) (rws : List (List (Int × Str))) (G : Hp), vs = [.ref rr, .str nm] ∧ Same G H ∧ RowsAt K G rr ns rws ∧ BookOk b ns rws ∧ nm ∈ ns ∧
  ∀ (l : Addr) (F : List Str) (H' : Hp), Same H H' → H l = none → H' l = some (.lst (F.map V.str)) → (∀ y, y ∈ F ↔ Bh ns rws nm y) → F.length ≤ 8 → Q (.ref l) H'
section
variable {P : Program} {w : World} {K : PySem.W.Frag} {mg : Str → Option Value} {base : Heap}
theorem scBehind : FnScope ["rows", "name", "found", "todo", "digit", "other"] ["rows", "name"] (defScope sBehind) := ⟨rfl, rfl, rfl, by decide +kernel, rfl, by decide +kernel, by decide +kernel⟩
theorem ok_behind {f : Addr} {fd : FuncData} (F : Fun K "_law_behind" "_law_behind" sBehind f fd) : FnOk P w K mg base CX0 2 f fd ["rows", "name"] (spBehind K) := by
  refine F.ok scBehind (fun vs H Q E h => ?_) (fun cdv A outer s H vs Q E hr h => ?_)
  · obtain ⟨rr, nm, b, ns, rws, G, rfl, _⟩ := h
    rfl
  · obtain ⟨rr, nm, b, ns, rws, G, rfl, e, RA, B, hn, k⟩ := h
    have hu1 := Nat.lt_trans (Nat.add_lt_add_left (show 1 < 64 by decide) _) hr.units
    obtain ⟨kvs, hrr, hk, hdq⟩ := RA.ex
    refine ⟨_, (pss_cons (ps_set (i := 2) scBehind.nd rfl (Or.inl rfl) (pe_lst pa_nil))
      (pss_cons (ps_set (i := 3) scBehind.nd rfl (Or.inl rfl) (pe_lst (pa_cons (pv 1) pa_nil)))
      (pss_cons (ps_while PassesOwn.never (pt_cmpR (op_neD hr.units) (pv 3) (pe_lst pa_nil) (nomark _)) (pss_one (ps_for PassesOwn.never rfl (pi_tup (pe_dget hu1 (pv 0) (pe_bm0 PySem.F.plainAttrs_list PySem.F.slot_list_pop PySem.F.type_list_pop mt_pop (pv 3)) (fun _ _ => rfl))) (pg_tup (by rfl) (pgs_cons (pg_name (i := 4) scBehind.nd rfl (Or.inl rfl)) (pgs_cons (pg_name (i := 5) scBehind.nd rfl (Or.inl rfl)) pgs_nil))) (pss_one (ps_if (pt_cmpR op_notIn_seq (pv 5) (pv 2) (by rfl)) (pss_cons (ps_expr (pe_bm PySem.F.plainAttrs_list PySem.F.slot_list_append PySem.F.type_list_append mt_append (pv 2) (pa_cons (pv 5) pa_nil)))
      (pss_one (ps_expr (pe_bm PySem.F.plainAttrs_list PySem.F.slot_list_append PySem.F.type_list_append mt_append (pv 3) (pa_cons (pv 5) pa_nil))))) pss_nil)))))
      (pss_one (ps_ret (pv 2)))))), ?_⟩
    refine ⟨by decide, fun lf nf => ?_⟩
    refine ⟨_, rfl, (by show 1 ≤ sizeLine; decide), fun lt nt => ?_⟩
    have ft : lf ≠ lt := ne_of_none upd_same nt
    have nt0 : H lt = none := (Same.upd (o := .lst []) nf).free nt
    refine ⟨fun μ σ H2 => ∃ (F T : List Str) (y4 y5 : Option V), μ = T.length + 2 * (8 - F.length) ∧ μ ≤ 17 ∧ σ = [some (.ref rr), some (.str nm), some (.ref lf), some (.ref lt), y4, y5] ∧ Same H H2 ∧ H2 lf = some (.lst (F.map V.str)) ∧ H2 lt = some (.lst (T.map V.str)) ∧ BSt ns rws nm F T,
      ⟨_, [], [nm], none, none, rfl, (by show 1 + 2 * (8 - 0) ≤ 17; decide), rfl, (Same.upd nf).trans (Same.upd nt), by rw [upd_ne ft]; exact upd_same, upd_same, BSt.start⟩, ?_⟩
    rintro μ σ H2 ⟨F, T, y4, y5, rfl, m17, rfl, sm, hf, ht, st⟩
    have F8 : F.length ≤ 8 := Nat.le_trans (nod_len st.nod fun x hx => bh_in B (st.bh x hx)) B.n8
    have tlets : ∀ x ∈ T, Lets (tl x) := fun x hx => by
      rcases st.td x hx with rfl | h
      · exact (B.ok _ hn).lets
      · exact (B.ok _ (bh_in B (st.bh x h))).lets
    refine ⟨_, rfl, by decide, fun t0 nt' => ?_⟩
    have s0 : Same H2 (upd H2 t0 (.lst [])) := Same.upd nt'
    refine ⟨.list (T.map PyData.str), .list (([] : List Str).map PyData.str), dp_sl (s0 _ _ ht), dp_sl (l := []) upd_same, shaped_sl T tlets, shaped_sl [] (fun _ h => nomatch h), _, rfl, ?_⟩
    rw [eqv_sl]
    rcases List.eq_nil_or_concat T with hT | ⟨T', x, hT⟩
    · subst hT
      refine ifF (by rw [decide_eq_true rfl]; rfl) ?_
      refine ⟨_, rfl, k lf F _ (sm.trans s0) nf (s0 _ _ hf) st.fin F8⟩
    · rw [List.concat_eq_append] at hT
      subst hT
      refine ifT (by rw [decide_eq_false (by simp)]; rfl) ?_
      have sm0 := sm.trans s0
      have hf0 := s0 _ _ hf
      have ht0 := s0 _ _ ht
      generalize upd H2 t0 (.lst []) = H3 at sm0 hf0 ht0
      have xin : x ∈ ns := by
        rcases st.td x (List.mem_append_right _ List.mem_cons_self) with rfl | h
        · exact hn
        · exact bh_in B (st.bh x h)
      obtain ⟨v, gv, dv⟩ := get_row hk hdq xin
      obtain ⟨a, as, rfl, ga, las, gas⟩ := dq_row dv
      have sH : Same H (upd H3 lt (.lst (T'.map V.str))) := fun c o hc => by
        rw [upd_ne (ne_of_none hc nt0)]
        exact sm0 c o hc
      refine ⟨fun σ' H' => ∃ (F1 T1 : List Str) (y4 y5 : Option V), T1.length + 2 * (8 - F1.length) < (T' ++ [x]).length + 2 * (8 - F.length) ∧ σ' = [some (.ref rr), some (.str nm), some (.ref lf), some (.ref lt), y4, y5] ∧ Same H H' ∧ H' lf = some (.lst (F1.map V.str)) ∧ H' lt = some (.lst (T1.map V.str)) ∧ BSt ns rws nm F1 T1,
        fun σ' H' ⟨F1, T1, z4, z5, h1, h2, h3⟩ => ⟨_, h1, F1, T1, z4, z5, rfl, by omega, h2, h3⟩, ?_⟩
      refine ⟨_, rfl, _, rfl, .inl ⟨rfl, _, SqL.of ht0⟩, lt, _, .str x, rfl, rfl, ht0, ?_, ?_⟩
      · rw [List.map_append, List.length_append, List.map_cons, List.map_nil]
        simp
      have edl : ((T' ++ [x]).map V.str).dropLast = T'.map V.str := by rw [List.map_append]; simp
      rw [edl]
      refine ⟨rr, .ref a, rfl, ?_, ?_⟩
      · rw [← gv]; exact DGet.k (k := Sum.inr x) (sH _ _ (e _ _ hrr))
      refine ⟨a, rfl, ⟨_, SqT.of (sH _ _ (e _ _ ga))⟩, for_tup (K := K) (a := a) (xs := as) (fun i σ' H' => i ≤ as.length ∧ ∃ (F1 T1 : List Str) (y4 y5 : Option V), T1.length + 2 * (8 - F1.length) ≤ T'.length + 2 * (8 - F.length) ∧ σ' = [some (.ref rr), some (.str nm), some (.ref lf), some (.ref lt), y4, y5] ∧ Same H H' ∧ H' lf = some (.lst (F1.map V.str)) ∧ H' lt = some (.lst (T1.map V.str)) ∧ BRow ns rws nm x i F1 T1)
        ⟨Nat.zero_le _, F, T', y4, y5, Nat.le_refl _, rfl, sH, by rw [upd_ne ft]; exact hf0, upd_same, st.pop⟩ (fun i σ' H' _ q => by
          obtain ⟨_, _, _, _, _, _, _, q, _⟩ := q
          exact SqT.of (q _ _ (e _ _ ga))) ?_ ?_⟩
      · rintro i y σ' H' hy ⟨_, F1, T1, z4, z5, hm, rfl, s1, hf1, ht1, br⟩
        have hi : i < as.length := (List.getElem?_eq_some_iff.mp hy).1
        have hi2 : i < (rowAt ns rws x).length := by omega
        obtain ⟨c, hc, gc⟩ := gas i _ (List.getElem?_eq_getElem hi2)
        obtain rfl : y = .ref c := Option.some.inj (hy.symm.trans hc)
        have hq := List.getElem?_eq_getElem hi2
        generalize (rowAt ns rws x)[i] = q at gc hq
        refine ⟨c, _, rfl, SqT.of (s1 _ _ (e _ _ gc)), rfl, _, _, rfl, _, _, rfl, rfl, ?_⟩
        refine ⟨_, rfl, _, rfl, lf, _, rfl, .inl (SqL.of hf1), rfl, flat_strs _, _, rfl, ?_⟩
        rw [inV_str]
        by_cases m : q.2 ∈ F1
        · refine ifF (by rw [decide_eq_true m]; rfl) ?_
          exact ⟨hi, F1, T1, _, _, hm, rfl, s1, hf1, ht1, br.seen hq m⟩
        · refine ifT (by rw [decide_eq_false m]; rfl) ?_
          have br' := br.new hq m
          have n8 : (F1 ++ [q.2]).length ≤ 8 := Nat.le_trans (nod_len br'.nod fun x hx => bh_in B (br'.bh x hx)) B.n8
          have l1 : T1.length ≤ 100 := by rw [List.length_append] at m17; omega
          rw [List.length_append] at n8
          simp only [List.length_cons, List.length_nil] at n8
          refine ⟨_, rfl, .inl ⟨rfl, _, SqL.of hf1⟩, _, rfl, lf, _, _, rfl, rfl, hf1, (by rw [List.length_map, sizeLine_eq]; omega), ?_⟩
          have ht2 : upd H' lf (.lst (F1.map V.str ++ [.str q.2])) lt = some (.lst (T1.map V.str)) := by rw [upd_ne ft.symm]; exact ht1
          refine ⟨_, rfl, .inl ⟨rfl, _, SqL.of ht2⟩, _, rfl, lt, _, _, rfl, rfl, ht2, (by rw [List.length_map, sizeLine_eq]; omega), ?_⟩
          refine ⟨hi, F1 ++ [q.2], T1 ++ [q.2], _, _, by rw [List.length_append, List.length_append]; simp only [List.length_cons, List.length_nil]; omega, rfl, fun c' o hc' => ?_, by rw [upd_ne ft, upd_same, List.map_append]; rfl, by rw [upd_same, List.map_append]; rfl, br'⟩
          rw [upd_ne (ne_of_none hc' nt0), upd_ne (ne_of_none hc' nf)]
          exact s1 c' o hc'
      · rintro σ' H' ⟨_, F1, T1, z4, z5, hm, rfl, s1, hf1, ht1, br⟩
        rw [las] at br
        exact ⟨F1, T1, z4, z5, by rw [List.length_append]; simp only [List.length_cons, List.length_nil]; omega, rfl, s1, hf1, ht1, br.done⟩
end
end My

namespace My
open PySem PySem.Spec PyProof.Rows L2
abbrev sLive : Stmt := topS 1
abbrev sLeads : Stmt := topS 2
def onF (ns : List Str) (rws : List (List (Int × Str))) (L : List Str) (x : Str) : Bool := (rowAt ns rws x).any fun q => decide (q.2 ∈ L)
def spLeads (K : PySem.W.Frag) : Sp := fun vs H Q _ => ∃ (v : V) (ln : Addr) (row : List (Int × Str)) (L : List Str) (G : Hp), vs = [v, .ref ln] ∧ Same G H ∧ Dq K G v (rowD row) ∧ row.length ≤ 12 ∧ H ln = some (.lst (L.map V.str)) ∧
  ∀ H', Same H H' → Q (.bl (row.any fun q => decide (q.2 ∈ L))) H'
def spLive (K : PySem.W.Frag) : Sp := fun vs H Q _ => ∃ (bk rr : Addr) (b : Int) (ns : List Str) (rws : List (List (Int × Str))) (G : Hp), vs = [.ref bk] ∧ Same G H ∧ G bk = some (.tup [.int b, .ref rr]) ∧ RowsAt K G rr ns rws ∧ BookOk b ns rws ∧
  ∀ (l : Addr) (S L : List Str) (H' : Hp), Same H H' → H l = none → H' l = some (.lst (L.map V.str)) → S.Perm ns → sortedS S = true → LiveAt ns rws S L → stp ns rws L = L → Q (.ref l) H'
structure TxL (mg : Str → Option Value) : Prop where
  any : mg "any" = none
  sorted : mg "sorted" = none
section
variable {P : Program} {w : World} {K : PySem.W.Frag} {mg : Str → Option Value} {base : Heap}
theorem scLeads : FnScope ["row", "names", "_", "name"] ["row", "names"] (defScope sLeads) := ⟨rfl, rfl, rfl, by decide +kernel, rfl, by decide +kernel, by decide +kernel⟩
theorem ok_leads {f : Addr} {fd : FuncData} (F : Fun K "_leads_to" "_leads_to" sLeads f fd) (T : TxL mg) : FnOk P w K mg base CX0 1 f fd ["row", "names"] (spLeads K) := by
  refine F.ok scLeads (fun vs H Q E h => ?_) (fun cdv A outer s H vs Q E hr h => ?_)
  · obtain ⟨v, ln, row, L, G, rfl, _⟩ := h
    rfl
  · obtain ⟨v, ln, row, L, G, rfl, e, dv, r12, hl, k⟩ := h
    obtain ⟨a, as, rfl, ga, las, gas⟩ := dq_row dv
    refine ⟨_, (pss_one (ps_ret (pe_callB (cr_any rfl) (by rfl) T.any boot_any (pa_cons (pe_lc (own := [("_", 2), ("name", 3)]) (g := gTup K 2 (gCons (gName 2) (gCons (gName 3) gNil))) (tt := tYes) rfl scLeads.nd (pi_tup (pv 0)) (blkOk_by (N := ["row", "names", "_", "name"]) (sc := defScope sLeads) (by decide +kernel)) (fun _ _ _ _ _ => (pg_tup (by rfl) (pgs_cons (pg_name (i := 2) scLeads.nd rfl (Or.inl rfl)) (pgs_cons (pg_name (i := 3) scLeads.nd rfl (Or.inl rfl)) pgs_nil)))) (fun _ _ _ _ _ => pts_nil) (fun _ _ _ _ _ => (pe_cmpR (show OpR _ _ (rIn K false) from op_in_seq) (pv 3) (pv 1) (by rfl)))) pa_nil)))), ?_⟩
    refine ⟨_, rfl, a, rfl, ⟨_, SqT.of (e _ _ ga)⟩, fun D nD => ?_⟩
    refine lc_it (walk_tup (K := K) (a := a) (xs := as)) (fun i Hi => Same H Hi ∧ i ≤ as.length ∧ Hi D = some (.lst (((row.take i).map fun q => decide (q.2 ∈ L)).map V.bl))) ⟨Same.upd nD, Nat.zero_le _, upd_same⟩ (fun i Hi _ q => SqT.of (q.1 _ _ (e _ _ ga))) ?_ ?_
    · rintro i x Hi Hj hi ⟨si, _, hD⟩ ⟨rfl, hx⟩
      have hi2 : i < row.length := by omega
      obtain ⟨c, hc, gc⟩ := gas i _ (List.getElem?_eq_getElem hi2)
      obtain rfl : x = .ref c := Option.some.inj (hx.symm.trans hc)
      refine ⟨c, _, rfl, SqT.of (si _ _ (e _ _ gc)), rfl, _, _, rfl, _, _, rfl, rfl, ?_⟩
      refine ⟨rfl, ?_⟩
      refine ⟨_, rfl, _, rfl, ln, _, rfl, .inl (SqL.of (si _ _ hl)), rfl, flat_strs _, ?_⟩
      refine ⟨_, hD, by rw [List.length_map, List.length_map, List.length_take, sizeLine_eq]; omega, fun c' o hc' => ?_, hi, ?_⟩
      · rw [upd_ne (ne_of_none hc' nD)]; exact si c' o hc'
      · rw [upd_same, List.take_add_one, List.getElem?_eq_getElem hi2, List.map_append, List.map_append]
        show _ = some (HO.lst (_ ++ [V.bl (decide (row[i].2 ∈ L))]))
        rw [← inV_str]
        rfl
    · rintro Hi ⟨si, _, hD⟩
      refine ⟨D, (row.map fun q => decide (q.2 ∈ L)), rfl, SqL.of ?_, ?_⟩
      · rw [hD, las, List.take_length]
      · have := k Hi si
        rw [List.any_map]
        exact this
theorem scLive : FnScope ["book", "rows", "names", "going", "name"] ["book"] (defScope sLive) := ⟨rfl, rfl, rfl, by decide +kernel, rfl, by decide +kernel, by decide +kernel⟩
theorem ok_live {f fLt : Addr} {fd fdLt : FuncData} (F : Fun K "live" "live" sLive f fd) (T : TxL mg) (FLt : Fun K "_leads_to" "_leads_to" sLeads fLt fdLt) (bLt : Binds K fdLt ["row", "names"] []) (gLt : mg "_leads_to" = some (.ref fLt)) :
    FnOk P w K mg base CX0 2 f fd ["book"] (spLive K) := by
  have GLt : FnOk P w K mg base CX0 1 fLt fdLt ["row", "names"] (spLeads K) := ok_leads FLt T
  refine F.ok scLive (fun vs H Q E h => ?_) (fun cdv A outer s H vs Q E hr h => ?_)
  · obtain ⟨bk, rr, b, ns, rws, G, rfl, _⟩ := h
    rfl
  · obtain ⟨bk, rr, b, ns, rws, G, rfl, e, gb, RA, B, k⟩ := h
    have hr1 := hr
    have hu1 := Nat.lt_trans (Nat.add_lt_add_left (show 1 < 64 by decide) _) hr.units
    obtain ⟨kvs, hrr, hk, hdq⟩ := RA.ex
    refine ⟨_, (pss_cons (ps_set (i := 1) scLive.nd rfl (Or.inr rfl) (pe_ix ix_tup (pv 0) pe_int (fun _ _ => rfl)))
      (pss_cons (ps_set (i := 2) scLive.nd rfl (Or.inr rfl) (pe_callB (call_sortedD rfl) (by rfl) T.sorted boot_sorted (pa_cons (pv 1) pa_nil)))
      (pss_one (ps_while PassesOwn.never (pt_val pe_bl) (pss_cons (ps_setLc (i := 3) (own := [("name", 4)]) (g := gName 4) rfl scLive.nd rfl (by rfl) (sw_true (by rfl) (by rfl) (by rfl) (by rfl)) (pi_list (pv 2)) (blkOk_by (N := ["book", "rows", "names", "going", "name"]) (sc := defScope sLive) (by decide +kernel)) (fun _ _ _ _ _ => (pg_name (i := 4) scLive.nd rfl (Or.inl rfl))) (fun _ _ _ _ _ => pts_one (pt_val (pe_call GLt hr1 (by rfl) gLt FLt.kp bLt .nil pass0 (pa_cons (pe_dget hu1 (pv 1) (pv 4) (fun _ _ => rfl)) (pa_cons (pv 2) pa_nil))))) (fun _ _ _ _ _ => (pv 4)))
      (pss_cons (ps_if (pt_cmpR (op_eqD hr.units) (pv 3) (pv 2) (nomark _)) (pss_one (ps_ret (pv 2))) pss_nil)
      (pss_one (ps_set (i := 2) scLive.nd rfl (Or.inr rfl) (pv 3))))))))), ?_⟩
    refine ⟨_, rfl, bk, _, 1, .ref rr, rfl, rfl, SqT.of (e _ _ gb), atI_nat (j := 1) rfl, ?_⟩
    refine ⟨_, rfl, rr, kvs, ns, rfl, .inl (e _ _ hrr), hk, by have := B.n8; omega, fun S l0 hS1 hS2 nl => ?_⟩
    have memS : ∀ x, x ∈ S ↔ x ∈ ns := fun x => hS1.mem_iff
    refine ⟨fun μ σ H2 => ∃ (ln : Addr) (L : List Str) (y3 : Option V), μ = L.length ∧ σ = [some (.ref bk), some (.ref rr), some (.ref ln), y3, none] ∧ Same H H2 ∧ H ln = none ∧ H2 ln = some (.lst (L.map V.str)) ∧ LiveAt ns rws S L,
      ⟨_, l0, S, none, rfl, rfl, Same.upd nl, nl, upd_same, LiveAt.start⟩, ?_⟩
    rintro μ σ H2 ⟨ln, L, y3, rfl, rfl, sm, nln, hln, la⟩
    have Lin : ∀ x ∈ L, x ∈ ns := fun x hx => by
      obtain ⟨Pp, rfl, _⟩ := la.ex
      exact (memS x).mp (List.mem_filter.mp hx).1
    have L8 : L.length ≤ 8 := by
      obtain ⟨Pp, rfl, _⟩ := la.ex
      have := List.length_filter_le Pp S
      have := hS1.length_eq
      have := B.n8
      omega
    refine ⟨true, rfl, iteT ⟨_, fun _ _ q => q, ?_⟩⟩
    refine ⟨_, rfl, ln, rfl, ⟨_, SqL.of hln⟩, fun D nD => ?_⟩
    refine lc_it (walk_list (K := K) (a := ln) (xs := L.map V.str)) (fun i Hi => Same H2 Hi ∧ Hi D = some (.lst (((L.take i).filter (onF ns rws L)).map V.str))) ⟨Same.upd nD, upd_same⟩ (fun i Hi _ q => SqL.of (q.1 _ _ hln)) ?_ ?_
    · rintro i x Hi Hj hi ⟨si, hD⟩ ⟨rfl, hx⟩
      rw [List.length_map] at hi
      rw [List.getElem?_map, List.getElem?_eq_getElem hi] at hx
      obtain rfl := (Option.some.inj hx).symm
      have xin := Lin _ (List.getElem_mem hi)
      obtain ⟨v, gv, dv⟩ := get_row hk hdq xin
      have eH := (e.trans sm).trans si
      refine ⟨rfl, ?_⟩
      refine ⟨_, rfl, _, rfl, rr, v, rfl, (by rw [← gv]; exact DGet.k (k := Sum.inr L[i]) (eH _ _ hrr)), _, rfl, v, ln, _, L, G, rfl, eH, dv, rowAt_len B _, si _ _ hln, fun H3 s3 => ?_⟩
      have tk : L.take (i + 1) = L.take i ++ [L[i]] := by rw [List.take_add_one, List.getElem?_eq_getElem hi]; rfl
      refine ⟨_, rfl, ?_⟩
      by_cases c : onF ns rws L L[i] = true
      · refine ifT c ?_
        refine ⟨_, rfl, _, s3 _ _ hD, by
          rw [List.length_map, sizeLine_eq]
          have := List.length_filter_le (onF ns rws L) (L.take i)
          rw [List.length_take] at this
          omega, fun c' o hc' => ?_, ?_⟩
        · rw [upd_ne (ne_of_none hc' nD)]; exact s3 _ _ (si c' o hc')
        · rw [upd_same, tk, List.filter_append, List.filter_cons_of_pos c, List.map_append]; rfl
      · have c' : onF ns rws L L[i] = false := by simpa using c
        refine ifF c' ?_
        refine ⟨si.trans s3, ?_⟩
        rw [tk, List.filter_append, List.filter_cons_of_neg c, List.filter_nil, List.append_nil]
        exact s3 _ _ hD
    · rintro Hi ⟨si, hD⟩
      rw [List.length_map, List.take_length] at hD
      have hD : Hi D = some (.lst ((stp ns rws L).map V.str)) := hD
      have nD0 : H D = none := sm.free nD
      have lts : ∀ M : List Str, (∀ x ∈ M, x ∈ L) → ∀ x ∈ M, Lets (tl x) := fun M hM x hx => (B.ok x (Lin x (hM x hx))).lets
      refine ⟨_, rfl, _, rfl, .list ((stp ns rws L).map PyData.str), .list (L.map PyData.str), dp_sl hD, dp_sl (si _ _ hln), shaped_sl _ (lts _ fun x hx => (List.mem_filter.mp hx).1), shaped_sl _ (lts _ fun _ h => h), _, rfl, ?_⟩
      rw [eqv_sl]
      by_cases c : stp ns rws L = L
      · refine ifT (decide_eq_true c) ⟨_, rfl, k ln S L _ (sm.trans si) nln (si _ _ hln) hS1 hS2 la c⟩
      · refine ifF (decide_eq_false c) ?_
        exact ⟨_, rfl, _, stp_less c, D, _, _, rfl, rfl, sm.trans si, nD0, hD, la.step B memS⟩
end
end My

namespace My
open PySem PySem.Spec PyProof.Rows L2
abbrev sChain : Stmt := topS 12
def spChain (K : PySem.W.Frag) : Sp := fun vs H Q _ => ∃ (p pc ln : Addr) (b : Int) (ns : List Str) (t : Nat) (G : Hp), vs = [.ref p, .int b, .ref ln] ∧ 2 ≤ b ∧ b ≤ 10 ∧ ns ≠ [] ∧ NamesOk ns ns.length ∧ ns.length ≤ 8 ∧ PenC H p pc t ∧ t + 400 < 2 ^ 29 ∧
  Same G H ∧ G p = none ∧ ln ≠ p ∧ H ln = some (.lst (ns.map V.str)) ∧
  ∀ (v : V) (rws : List (List (Int × Str))) (G' H' : Hp), Mw p G H G' H' → PenC H' p pc (t + 30 * ns.length) → Dq K G' v (bookD b ns rws) → BookOk b ns rws → Q v H'
structure TxC (mg : Str → Option Value) : Prop where
  len : mg "len" = none
  tuple : mg "tuple" = none
  enumerate : mg "enumerate" = none
theorem cut_strs (ns : List Str) (lo hi : Option Int) : ∃ os : List Str, cutV (ns.map V.str) lo hi = os.map V.str ∧ (∀ x ∈ os, x ∈ ns) ∧ os.length ≤ ns.length := by
  refine ⟨(ns.drop (HT.sIx ns.length 0 lo)).take (HT.sIx ns.length ns.length hi - HT.sIx ns.length 0 lo), ?_, fun x hx => List.mem_of_mem_drop (List.mem_of_mem_take hx), ?_⟩
  · unfold cutV
    rw [List.length_map, List.map_take, List.map_drop]
  · rw [List.length_take, List.length_drop]; omega
section
variable {P : Program} {w : World} {K : PySem.W.Frag} {mg : Str → Option Value} {base : Heap}
theorem scChain : FnScope ["pen", "base", "names", "rows", "k", "name", "onward", "other"] ["pen", "base", "names"] (defScope sChain) := ⟨rfl, rfl, rfl, by decide +kernel, rfl, by decide +kernel, by decide +kernel⟩
theorem ok_chain {f fT : Addr} {fd fdT : FuncData} (F : Fun K "_law_chain" "_law_chain" sChain f fd) (T : TxC mg)
    (FT : Fun K "_law_take" "_law_take" sTake fT fdT) (GT : FnOk P w K mg base CX0 2 fT fdT ["pen", "many"] spTakeC) (bT : Binds K fdT ["pen", "many"] []) (gT : mg "_law_take" = some (.ref fT)) :
    FnOk P w K mg base CX0 4 f fd ["pen", "base", "names"] (spChain K) := by
  refine F.ok scChain (fun vs H Q E h => ?_) (fun cdv A outer s H vs Q E hr h => ?_)
  · obtain ⟨p, pc, ln, b, ns, t, G, rfl, _⟩ := h
    rfl
  · obtain ⟨p, pc, ln, b, ns, t, G, rfl, b0, b1, n0, nok, n8, PC, ht, e, np, lp, hln, k⟩ := h
    have hr2 : Room 2 _ := hr.mono (by decide)
    have hu1 := Nat.lt_trans (Nat.add_lt_add_left (show 1 < 64 by decide) _) hr.units
    have nl0 : 0 < ns.length := List.length_pos_iff.mpr n0
    refine ⟨_, (pss_cons (ps_set (i := 3) scChain.nd rfl (Or.inl rfl) pe_dnewK)
      (pss_cons (ps_for PassesOwn.never rfl (pi_enum (by rfl) T.enumerate (pa_cons (pv 2) pa_nil)) (pg_tup (by rfl) (pgs_cons (pg_name (i := 4) scChain.nd rfl (Or.inl rfl)) (pgs_cons (pg_name (i := 5) scChain.nd rfl (Or.inl rfl)) pgs_nil))) (pss_cons (ps_set (i := 6) scChain.nd rfl (Or.inl rfl) (pe_slice sl_list (pv 2) (po_some (pe_op op_add (pv 4) pe_int)) (po_some (pe_op op_add (pv 4) pe_int))))
      (C8.pss_cut (ps_if (PW.pt (pw_and (pt_cmpR (op_eqD hr.units) (pv 6) (pe_lstS pa_nil) (nomark _)) (pw_and1 (pt_cmpR op_eq (pe_call GT hr2 (by rfl) gT FT.kp bT .nil pass0 (pa_cons (pv 0) (pa_cons pe_int pa_nil))) pe_int (nomark _))))) (pss_one (ps_set (i := 6) scChain.nd rfl (Or.inl rfl) (pe_lstS (pa_cons (pe_ix ix_list (pv 2) (pe_call GT hr2 (by rfl) gT FT.kp bT .nil pass0 (pa_cons (pv 0) (pa_cons (pe_callB call_len_seq (by rfl) T.len PySem.boot_len (pa_cons (pv 2) pa_nil)) pa_nil))) (fun _ _ => rfl)) pa_nil)))) pss_nil)
      (pss_one (ps_dput hu1 (pv 3) (pv 5) (pe_callTy call_tuple_of (by rfl) T.tuple boot_tuple (pa_cons (pe_lc (own := [("other", 7)]) (g := gName 7) (tt := tYes) rfl scChain.nd (pi_list (pv 6)) (blkOk_by (N := ["pen", "base", "names", "rows", "k", "name", "onward", "other"]) (sc := defScope sChain) (by decide +kernel)) (fun _ _ _ _ _ => pg_name (i := 7) scChain.nd rfl (Or.inl rfl)) (fun _ _ _ _ _ => pts_nil) (fun _ _ _ _ _ => (pe_tupS (pa_cons (pe_call GT hr2 (by rfl) gT FT.kp bT .nil pass0 (pa_cons (pv 0) (pa_cons (pv 1) pa_nil))) (pa_cons (pv 7) pa_nil))))) pa_nil)) rfl)))))
      (pss_one (ps_ret (pe_tup (pa_cons (pv 1) (pa_cons (pv 3) pa_nil))))))), ?_⟩
    intro r nr
    have rp : r ≠ p := pen_not PC.any nr
    have rc : r ≠ pc := fun z => PC.at_c (by rw [← z]; exact nr)
    have gr : G r = none := e.free nr
    have M0 : Mw p G H G (upd H r (.dK [])) := (Mw.take e np PC PC (fun _ _ _ h => h)).own nr gr rp
    refine ⟨_, rfl, ln, _, rfl, SqL.of ((Same.upd nr) _ _ hln), for_it (walk_enum (K := K) (a := ln) (xs := ns.map V.str)) (fun i σ H2 => (∃ y4 y5 y6 : Option V, σ = [some (.ref p), some (.int b), some (.ref ln), some (.ref r), y4, y5, y6, none]) ∧ PenC H2 p pc (t + 30 * i) ∧ i ≤ ns.length ∧
      ∃ (G2 : Hp) (kvs : List (Key × V)) (rws : List (List (Int × Str))), Mw p G H G2 H2 ∧ H2 r = some (.dK kvs) ∧ G2 r = none ∧ kvs.map (·.1) = (ns.take i).map Sum.inr ∧ DqAll K G2 (kvs.map (·.2)) (rws.map rowD) ∧ (∀ row ∈ rws, RowIn b ns 12 row) ∧ rws.length = i) ?_ ?_ ?_ ?_⟩
    · exact ⟨⟨_, _, _, rfl⟩, PC.upd rp rc (by omega) _, Nat.zero_le _, G, [], [], M0, upd_same, gr, rfl, .nil, (fun _ h => nomatch h), rfl⟩
    · rintro i σ H2 _ ⟨_, _, _, G2, kvs, rws, m, _⟩
      exact SqL.of (m.bt _ _ lp hln)
    · rintro i x σ H2 H3 hi' ⟨⟨y4, y5, y6, rfl⟩, P2, hi, G2, kvs, rws, m, hrk, g2r, hk, hdq, hin, hlen⟩ ⟨Tt, y, z, rfl, hT, rfl, ey, ez⟩
      rw [List.length_map] at hi'
      obtain rfl : V.int ((i : Nat) : Int) = y := Option.some.inj ey
      obtain ⟨nm, hnm, rfl⟩ : ∃ nm, ns[i]? = some nm ∧ z = .str nm := by
        have ez' : (ns.map V.str)[i]? = some z := ez
        rw [List.getElem?_map, List.getElem?_eq_getElem hi'] at ez'
        exact ⟨ns[i], List.getElem?_eq_getElem hi', (Option.some.inj ez').symm⟩
      refine ⟨Tt, _, rfl, SqT.of upd_same, rfl, _, _, rfl, _, _, rfl, rfl, ?_⟩
      have sT : Same H2 (upd H2 Tt (.tup [.int (i : Nat), .str nm])) := Same.upd hT
      have mT := m.more sT
      have PT := P2.same sT (Nat.le_refl _)
      have rT := sT _ _ hrk
      have lnT := mT.bt _ _ lp hln
      generalize upd H2 Tt (.tup [.int (i : Nat), .str nm]) = H3 at mT PT rT lnT
      obtain ⟨os, eos, osin, osl⟩ := cut_strs ns (some ((i : Int) + 1)) (some ((i : Int) + 2))
      refine ⟨_, rfl, _, rfl, _, _, rfl, rfl, _, rfl, _, rfl, _, _, rfl, rfl, _, rfl, ln, _, rfl, SqL.of lnT, fun lo nlo => ?_⟩
      rw [eos]
      have s4 : Same H3 (upd H3 lo (.lst (os.map V.str))) := Same.upd nlo
      have m4 := mT.more s4
      have P4 := PT.same s4 (Nat.le_refl _)
      have r4 := s4 _ _ rT
      have ln4 := s4 _ _ lnT
      have lo4 : (upd H3 lo (.lst (os.map V.str))) lo = some (.lst (os.map V.str)) := upd_same
      generalize upd H3 lo (.lst (os.map V.str)) = H4 at m4 P4 r4 ln4 lo4
      refine ⟨fun σ H5 => ∃ (lo : Addr) (os : List Str), σ = [some (.ref p), some (.int b), some (.ref ln), some (.ref r), some (.int (i : Nat)), some (.str nm), some (.ref lo), none] ∧ Mw p G H G2 H5 ∧ PenC H5 p pc (t + 30 * i + 2) ∧ H5 r = some (.dK kvs) ∧ H5 lo = some (.lst (os.map V.str)) ∧ lo ≠ p ∧ (∀ x ∈ os, x ∈ ns) ∧ os.length ≤ 8, ?_, ?_⟩
      · have lo_ne : lo ≠ p := fun z => by
          obtain ⟨xs, hxs⟩ := PT.isL
          rw [z] at nlo
          exact PT.any.some nlo
        have lets : ∀ x ∈ os, Lets (tl x) := fun x hx => (nok.ok x (osin x hx)).lets
        refine ⟨_, rfl, (by show 0 ≤ sizeLine; decide), fun l0 H5 s5 _ hl0 => ?_⟩
        refine ⟨.list (os.map PyData.str), .list (([] : List Str).map PyData.str), dp_sl (s5 _ _ lo4), dp_sl (l := []) hl0, shaped_sl os lets, shaped_sl [] (fun _ h => nomatch h), _, rfl, ?_⟩
        rw [eqv_sl]
        have m5 := m4.more s5
        have P5 := P4.same s5 (Nat.le_refl _)
        have stay : ∀ (H6 : Hp), Mw p G H G2 H6 → PenC H6 p pc (t + 30 * i + 2) → H6 r = some (.dK kvs) → H6 lo = some (.lst (os.map V.str)) → ∃ (lo' : Addr) (os' : List Str), [some (.ref p), some (.int b), some (.ref ln), some (.ref r), some (.int (i : Nat)), some (.str nm), some (.ref lo), none] = ([some (.ref p), some (.int b), some (.ref ln), some (.ref r), some (.int (i : Nat)), some (.str nm), some (.ref lo'), none] : L2.St) ∧ Mw p G H G2 H6 ∧ PenC H6 p pc (t + 30 * i + 2) ∧ H6 r = some (.dK kvs) ∧ H6 lo' = some (.lst (os'.map V.str)) ∧ lo' ≠ p ∧ (∀ x ∈ os', x ∈ ns) ∧ os'.length ≤ 8 :=
          fun H6 h1 h2 h3 h4 => ⟨lo, os, rfl, h1, h2, h3, h4, lo_ne, osin, by omega⟩
        refine ite2 (fun _ => ?_) (fun _ => iteF (stay H5 m5 (P5.same (Same.refl _) (by omega)) (s5 _ _ r4) (s5 _ _ lo4)))
        refine ⟨_, rfl, p, pc, 2, _, rfl, by decide, by decide, P5, by omega, fun c H6 _ _ b6 P6 => ?_⟩
        have m6 := m5.trans (Mw.take m5.gh (m5.gp np) P5 P6 b6)
        have r6 := b6 _ _ rp (s5 _ _ r4)
        have lo6 := b6 _ _ lo_ne (s5 _ _ lo4)
        have ln6 := b6 _ _ lp (s5 _ _ ln4)
        refine ⟨rfl, _, rfl, ite2 (fun _ => ?_) (fun _ => stay H6 m6 (P6.same (Same.refl _) (by omega)) r6 lo6)⟩
        refine ⟨_, rfl, _, rfl, _, rfl, ln, _, rfl, .inl (SqL.of ln6), p, pc, _, _, rfl, by rw [List.length_map]; omega, by rw [List.length_map]; exact small_nat (by omega), P6, by omega, fun ix H7 i0 i1 b7 P7 => ?_⟩
        rw [List.length_map] at i1
        obtain ⟨ot, otin, hot⟩ := str_at i0 i1
        refine ⟨ln, _, _, _, rfl, rfl, SqL.of (b7 _ _ lp ln6), hot, (by show 1 ≤ sizeLine; decide), fun l2 H8 s8 nl2 hl2 => ?_⟩
        have m7 := m6.trans (Mw.take m6.gh (m6.gp np) P6 P7 b7)
        exact ⟨l2, [ot], rfl, m7.more s8, P7.same s8 (by omega), s8 _ _ (b7 _ _ rp r6), hl2, fun z => P7.any.some (by rw [← z]; exact nl2), fun x hx => by rw [List.mem_singleton.mp hx]; exact otin, by show 1 ≤ 8; decide⟩
      · rintro σ H5 ⟨lo, os, rfl, m5, P5, r5, hlo, lop, osin, osl⟩
        refine ⟨_, rfl, lo, rfl, ⟨_, SqL.of hlo⟩, fun D nD => ?_⟩
        have Dp : D ≠ p := pen_not P5.any nD
        have Dc : D ≠ pc := fun z => P5.at_c (by rw [← z]; exact nD)
        refine lc_it (walk_list (K := K) (a := lo) (xs := os.map V.str)) (fun j Hi => PenC Hi p pc (t + 30 * i + 2 + j) ∧ j ≤ os.length ∧ But p H5 Hi ∧ ∃ zs : List (Addr × Int × Str), Hi D = some (.lst (zs.map fun z => V.ref z.1)) ∧ (∀ z ∈ zs, Hi z.1 = some (.tup (pv2 z.2)) ∧ InB b ns z.2) ∧ zs.length = j)
          ⟨P5.same (Same.upd nD) (by omega), Nat.zero_le _, But.of (Same.upd nD), [], upd_same, (fun _ h => nomatch h), rfl⟩ (fun j Hi _ q => SqL.of (q.2.2.1 _ _ lop hlo)) ?_ ?_
        · rintro j x Hi Hj hj ⟨Pj, _, bj, zs, hD, hz, hzl⟩ ⟨rfl, hx⟩
          rw [List.length_map] at hj
          rw [List.getElem?_map, List.getElem?_eq_getElem hj] at hx
          obtain rfl := (Option.some.inj hx).symm
          refine ⟨rfl, ?_⟩
          refine ⟨_, rfl, _, rfl, p, pc, b, _, rfl, by omega, small_int (by omega) (by omega), Pj, by omega, fun dg H6 d0 d1 b6 P6 => ?_⟩
          refine ⟨_, rfl, (by show 2 ≤ sizeLine; decide), fun q Hk sk hq => ?_⟩
          have hD6 := sk _ _ (b6 _ _ Dp hD)
          refine ⟨_, hD6, by rw [List.length_map, sizeLine_eq]; omega, (P6.same sk (Nat.le_refl _)).upd Dp Dc (by omega) _, hj, fun c o n1 hc => ?_, zs ++ [(q, (dg, os[j]))], by rw [upd_same, List.map_append]; rfl, fun y hy => ?_, by rw [List.length_append, hzl]; rfl⟩
          · rw [upd_ne (ne_of_none hc nD)]
            exact sk _ _ (b6 _ _ n1 (bj c o n1 hc))
          · rcases List.mem_append.mp hy with hy | hy
            · have h1 := hz y hy
              have yp : y.1 ≠ p := fun w => by
                obtain ⟨xs, hxs⟩ := Pj.isL
                rw [w, hxs] at h1
                cases h1.1
              have h2 := sk _ _ (b6 _ _ yp h1.1)
              exact ⟨by rw [upd_ne (ne_tl h2 hD6)]; exact h2, h1.2⟩
            · rw [List.mem_singleton.mp hy]
              exact ⟨by rw [upd_ne (ne_tl hq hD6)]; exact hq, d0, d1, osin _ (List.getElem_mem hj)⟩
        · rintro H7 ⟨P7, _, b7, zs, hD, hz, hzl⟩
          rw [List.length_map] at P7 hzl
          refine ⟨D, _, rfl, .inl ⟨SqL.of hD, fun q nq => ?_⟩⟩
          have m7 := (m5.trans (Mw.take m5.gh (m5.gp np) P5 P7 b7)).all
          have r7 := b7 _ _ rp r5
          have g7 := alls_gg (m5.trans (Mw.take m5.gh (m5.gp np) P5 P7 b7)).gh
          have g7r : alls G2 H7 r = none := by rw [alls_no (fun ys z => by rw [r7] at z; cases z)]; exact g2r
          have nwq := Nw.mk1 m7.gh nq (.tup (zs.map fun z => V.ref z.1))
          have rq : r ≠ q := ne_of_none r7 nq
          have m8 := m7.trans (Mw.nw nwq P7)
          have r8 : (upd H7 q (.tup (zs.map fun z => V.ref z.1))) r = some (.dK kvs) := by rw [upd_ne rq]; exact r7
          have g8r : (upd (alls G2 H7) q (.tup (zs.map fun z => V.ref z.1))) r = none := by rw [upd_ne rq]; exact g7r
          refine ⟨_, rfl, _, rfl, r, _, rfl, DPut.k (k := Sum.inr nm) r8 ?_, ?_⟩
          · have h1 := congrArg List.length hk
            rw [List.length_map, List.length_map, List.length_take] at h1
            rw [sizeLine_eq]; omega
          rw [put_new hk (take_new nok.nod hnm)]
          refine ⟨⟨_, _, _, rfl⟩, (P7.same (Same.upd nq) (Nat.le_refl _)).upd rp rc (by omega) _, hi', _, _, rws ++ [zs.map (·.2)], m8.own nr g8r rp, upd_same, g8r, ?_, ?_, fun x hx => ?_, by rw [List.length_append, hlen]; rfl⟩
          · rw [List.map_append, hk, List.take_add_one, hnm, List.map_append]; rfl
          · rw [List.map_append, List.map_append]
            refine dqApp (hdq.mono (g7.trans nwq.gg)) (.cons (.tup upd_same (dq_zs fun z hzm => ?_)) .nil)
            rw [upd_ne (fun w' => by have h1 := (hz z hzm).1; rw [w', nq] at h1; cases h1)]
            exact alls_tup (hz z hzm).1
          · rcases List.mem_append.mp hx with hx | hx
            · exact hin x hx
            · rw [List.mem_singleton.mp hx]
              refine ⟨fun q hq => ?_, by rw [List.length_map]; omega⟩
              obtain ⟨z, hzm, rfl⟩ := List.mem_map.mp hq
              exact (hz z hzm).2
    · rintro σ H2 ⟨⟨y4, y5, y6, rfl⟩, P2, _, G2, kvs, rws, m, hrk, g2r, hk, hdq, hin, hlen⟩
      rw [List.length_map] at hk hlen P2
      refine ⟨_, rfl, _, rfl, (by show 2 ≤ sizeLine; decide), fun q nq => ?_⟩
      have m1 := m.stand nr hrk
      have m2 := m1.trans (Mw.nw (Nw.mk1 m1.gh nq (.tup [.int b, .ref r])) P2)
      refine k (.ref q) rws _ _ m2 (P2.same (Same.upd nq) (Nat.le_refl _)) ?_ ⟨b0, b1, n0, n8, nok.nod, nok.ok, hlen, hin⟩
      have rq : r ≠ q := ne_of_none hrk nq
      refine .tup upd_same (.cons (.int _) (.cons ?_ .nil))
      rw [List.take_length] at hk
      refine .dct (kvs := kvs) (by rw [upd_ne rq]; exact upd_same) (dqKeys hk hlen) ?_
      rw [zipVals hlen]
      exact (hdq.mono (Same.upd g2r)).mono (Nw.mk1 m1.gh nq (.tup [.int b, .ref r])).gg
end
end My

namespace My
open PySem PySem.Spec PyProof.Rows L2
abbrev sSame : Stmt := topS 7
theorem walk_zipT {K : PySem.W.Frag} {a b : Addr} {xs ys : List V} {n : Nat} (hn : n = min xs.length ys.length) : Walk (RZ.ItzT K a b) n (fun H => SqT K H a xs ∧ SqT K H b ys) (YPair (fun i => xs[i]?) (fun i => ys[i]?)) := by
  subst hn
  refine ⟨fun i H hi q => ⟨xs, ys, xs[i]'(by omega), ys[i]'(by omega), q.1, q.2, List.getElem?_eq_getElem (by omega), List.getElem?_eq_getElem (by omega)⟩, fun H q => ⟨xs, ys, q.1, q.2, by omega⟩, fun i H v H' hi q y => ?_⟩
  obtain ⟨T, x, z, h1, h2, h3, h4, h5⟩ := y
  exact ⟨T, x, z, h1, h2, h3, h4 xs q.1, h5 ys q.2⟩
def Sh : Nat → PyData → Prop
  | 0, _ => False
  | n + 1, .list ds => ds.length ≤ 5000 ∧ ∀ e ∈ ds, Sh n e
  | n + 1, .tuple ds => ds.length ≤ 5000 ∧ ∀ e ∈ ds, Sh n e
  | _ + 1, .dict _ => False
  | _ + 1, _ => True
def spSame (K : PySem.W.Frag) (n : Nat) : Sp := fun vs H Q _ => ∃ (x y : V) (d : PyData), vs = [x, y] ∧ Dq K H x d ∧ Dq K H y d ∧ Sh n d ∧ ∀ H', Same H H' → Q (.bl true) H'
structure TxS (mg : Str → Option Value) : Prop where
  isi : mg "isinstance" = none
  int : mg "int" = none
  bool : mg "bool" = none
  str : mg "str" = none
  tuple : mg "tuple" = none
  list : mg "list" = none
  len : mg "len" = none
  zip : mg "zip" = none
theorem kit_list : ∀ d : PyData, kitB (tyN d) "list" = some (isT "list" d)
  | .none => by decide +kernel
  | .bool _ => (by decide +kernel : kitB "bool" "list" = some false)
  | .int _ => (by decide +kernel : kitB "int" "list" = some false)
  | .str _ => (by decide +kernel : kitB "str" "list" = some false)
  | .list _ => (by decide +kernel : kitB "list" "list" = some true)
  | .tuple _ => (by decide +kernel : kitB "tuple" "list" = some false)
  | .dict _ => (by decide +kernel : kitB "dict" "list" = some false)
theorem kit_str : ∀ d : PyData, kitB (tyN d) "str" = some (isT "str" d)
  | .none => by decide +kernel
  | .bool _ => (by decide +kernel : kitB "bool" "str" = some false)
  | .int _ => (by decide +kernel : kitB "int" "str" = some false)
  | .str _ => (by decide +kernel : kitB "str" "str" = some true)
  | .list _ => (by decide +kernel : kitB "list" "str" = some false)
  | .tuple _ => (by decide +kernel : kitB "tuple" "str" = some false)
  | .dict _ => (by decide +kernel : kitB "dict" "str" = some false)
/-- int or str -/
theorem kit_two {K : PySem.W.Frag} (d : PyData) : PySem.W.kitAny K (.type (tyN d)) [.type "int", .type "str"] = some ((isT "int" d || isT "bool" d) || isT "str" d) := by
  refine kitAny_cons (kit_ty (kit_int d)) (fun h => ?_) fun h => by rw [h]; rfl
  rw [h, Bool.false_or]
  refine kitAny_cons (kit_ty (kit_str d)) (fun h => ?_) fun h => h
  rw [h]; exact kitAny_nil
section
variable {P : Program} {w : World} {K : PySem.W.Frag} {mg : Str → Option Value} {base : Heap}
theorem scSame : FnScope ["found", "due", "one", "other"] ["found", "due"] (defScope sSame) := ⟨rfl, rfl, rfl, by decide +kernel, rfl, by decide +kernel, by decide +kernel⟩
theorem inV_true (n : Nat) : inV (.bl false) (List.replicate n (.bl true)) = false := by
  unfold inV
  induction n with
  | zero => rfl
  | succ n ih => rw [List.replicate_succ, List.any_cons, ih]; rfl
theorem flat_true (n : Nat) : (List.replicate n (V.bl true)).all flatV = true := by
  induction n with
  | zero => rfl
  | succ n ih => rw [List.replicate_succ, List.all_cons, ih]; rfl
theorem rep_snoc (n : Nat) (x : V) : List.replicate n x ++ [x] = List.replicate (n + 1) x := List.replicate_succ'.symm
theorem ok_same {f : Addr} {fd : FuncData} (F : Fun K "_law_same" "_law_same" sSame f fd) (T : TxS mg) (bS : Binds K fd ["found", "due"] []) (gS : mg "_law_same" = some (.ref f)) : ∀ n, FnOk P w K mg base CX0 n f fd ["found", "due"] (spSame K n)
  | 0 => ⟨fun vs H Q E h => by obtain ⟨_, _, _, _, _, _, z, _⟩ := h; exact z.elim, fun A outer s H args us vs Q E hr he hb hv h => by obtain ⟨_, _, _, _, _, _, z, _⟩ := h; exact z.elim⟩
  | n + 1 => by
    have GS := ok_same F T bS gS n
    refine F.ok scSame (fun vs H Q E h => ?_) (fun cdv A outer s H vs Q E hr h => ?_)
    · obtain ⟨x, y, d, rfl, _⟩ := h
      rfl
    · obtain ⟨x, y, d, rfl, hx, hy, hs, k⟩ := h
      refine ⟨_, (pss_cons (ps_if (PW.pt (pw_or (pt_cmpR op_isN (pv 1) pe_non (nomark _)) (pw_or1 (pt_cmpR op_isN (pv 0) pe_non (nomark _))))) (pss_one (ps_ret (pe_and (pe_cmpR op_isN (pv 1) pe_non (nomark _)) (pe_one (pe_cmpR op_isN (pv 0) pe_non (nomark _)))))) pss_nil)
      (pss_cons (ps_if (PW.pt (pw_or (pt_val (pe_callB call_isi (by rfl) T.isi boot_isinstance (pa_cons (pv 1) (pa_cons (pe_bltn (v := .ty "bool") (by rfl) T.bool boot_bool rfl) pa_nil)))) (pw_or1 (pt_val (pe_callB call_isi (by rfl) T.isi boot_isinstance (pa_cons (pv 0) (pa_cons (pe_bltn (v := .ty "bool") (by rfl) T.bool boot_bool rfl) pa_nil))))))) (pss_one (ps_ret (pe_and (pe_callB call_isi (by rfl) T.isi boot_isinstance (pa_cons (pv 1) (pa_cons (pe_bltn (v := .ty "bool") (by rfl) T.bool boot_bool rfl) pa_nil))) (pe_and (pe_callB call_isi (by rfl) T.isi boot_isinstance (pa_cons (pv 0) (pa_cons (pe_bltn (v := .ty "bool") (by rfl) T.bool boot_bool rfl) pa_nil))) (pe_one (pe_cmpR op_eq (pv 0) (pv 1) (nomark _))))))) pss_nil)
      (pss_cons (ps_if (pt_val (pe_callB call_isiT (by rfl) T.isi boot_isinstance (pa_cons (pv 1) (pa_cons (pe_tup (pa_cons (pe_bltn (v := .ty "int") (by rfl) T.int boot_int rfl) (pa_cons (pe_bltn (v := .ty "str") (by rfl) T.str boot_str rfl) pa_nil))) pa_nil)))) (pss_cons (ps_if (pt_cmpR op_ne (pe_callB call_isi (by rfl) T.isi boot_isinstance (pa_cons (pv 0) (pa_cons (pe_bltn (v := .ty "int") (by rfl) T.int boot_int rfl) pa_nil))) (pe_callB call_isi (by rfl) T.isi boot_isinstance (pa_cons (pv 1) (pa_cons (pe_bltn (v := .ty "int") (by rfl) T.int boot_int rfl) pa_nil))) (nomark _)) (pss_one (ps_ret pe_bl)) pss_nil)
      (pss_one (ps_ret (pe_and (pe_callB call_isiT (by rfl) T.isi boot_isinstance (pa_cons (pv 0) (pa_cons (pe_tup (pa_cons (pe_bltn (v := .ty "int") (by rfl) T.int boot_int rfl) (pa_cons (pe_bltn (v := .ty "str") (by rfl) T.str boot_str rfl) pa_nil))) pa_nil))) (pe_one (pe_cmpR op_eq (pv 0) (pv 1) (nomark _))))))) pss_nil)
      (pss_cons (ps_if (PW.pt (pw_or (pt_cmpR op_ne (pe_callB call_isi (by rfl) T.isi boot_isinstance (pa_cons (pv 1) (pa_cons (pe_bltn (v := .ty "tuple") (by rfl) T.tuple boot_tuple rfl) pa_nil))) (pe_callB call_isi (by rfl) T.isi boot_isinstance (pa_cons (pv 0) (pa_cons (pe_bltn (v := .ty "tuple") (by rfl) T.tuple boot_tuple rfl) pa_nil))) (nomark _)) (pw_or1 (pt_cmpR op_ne (pe_callB call_isi (by rfl) T.isi boot_isinstance (pa_cons (pv 1) (pa_cons (pe_bltn (v := .ty "list") (by rfl) T.list boot_list rfl) pa_nil))) (pe_callB call_isi (by rfl) T.isi boot_isinstance (pa_cons (pv 0) (pa_cons (pe_bltn (v := .ty "list") (by rfl) T.list boot_list rfl) pa_nil))) (nomark _))))) (pss_one (ps_ret pe_bl)) pss_nil)
      (pss_cons (ps_if (pt_cmpR op_ne (pe_callB call_len_seq (by rfl) T.len PySem.boot_len (pa_cons (pv 0) pa_nil)) (pe_callB call_len_seq (by rfl) T.len PySem.boot_len (pa_cons (pv 1) pa_nil)) (nomark _)) (pss_one (ps_ret pe_bl)) pss_nil)
      (pss_one (ps_ret (pe_cmpR op_notIn_seq pe_bl (pe_lc (own := [("one", 2), ("other", 3)]) (g := gTup K 2 (gCons (gName 2) (gCons (gName 3) gNil))) (tt := tYes) rfl scSame.nd (RZ.pi_zipA (by rfl) T.zip (pa_cons (pv 0) (pa_cons (pv 1) pa_nil))) (blkOk_by (N := ["found", "due", "one", "other"]) (sc := defScope sSame) (by decide +kernel)) (fun _ _ _ _ _ => (pg_tup (by rfl) (pgs_cons (pg_name (i := 2) scSame.nd rfl (Or.inl rfl)) (pgs_cons (pg_name (i := 3) scSame.nd rfl (Or.inl rfl)) pgs_nil)))) (fun _ _ _ _ _ => pts_nil) (fun _ _ _ _ _ => (pe_call GS hr (by rfl) gS F.kp bS .nil pass0 (pa_cons (pv 2) (pa_cons (pv 3) pa_nil))))) (by rfl))))))))), ?_⟩
      have e0 := Same.refl H
      -- what both kinds of rows come to
      have seq2 : ∀ (a b : Addr) (xs ys : List V) (ds : List PyData) {H : Hp}, DqAll K H xs ds → DqAll K H ys ds → ds.length ≤ 5000 → (∀ e ∈ ds, Sh n e) → ∀ (J : It) (S : Hp → Prop), (∀ H', Same H H' → S H') → Walk J xs.length S (YPair (fun i => xs[i]?) (fun i => ys[i]?)) → Same H H →
          ∀ (D : Addr), H D = none → ∀ (Qd : Hp → Prop), (∀ H', Same H H' → H' D = some (.lst (List.replicate xs.length (.bl true))) → Qd H') → ∃ W : Nat → Nat → Hp → Prop, (∃ m, W 0 m (upd H D (.lst []))) ∧ ∀ i m H3, W i m H3 → (J.stop i H3 ∧ Qd H3) ∨ (J.go i H3 ∧ ∃ Nx : Hp → Prop, (∀ H', Nx H' → ∃ m', m' < m ∧ W (i + 1) m' H') ∧
            ∀ x H', J.yld i H3 x H' → gTup K 2 (gCons (gName 2) (gCons (gName 3) gNil)) x (wipe [some (.ref a), some (.ref b), none, none] [2, 3]) H' fun σ2 H2 => wipe σ2 [2, 3] = wipe [some (.ref a), some (.ref b), none, none] [2, 3] ∧ tYes σ2 H2 fun c H3 =>
              if c = true then (tCall (spSame K n) [] E0 (tCons (tVar 2) (tCons (tVar 3) tNil))) σ2 H3 fun y H4 => ∃ acc, H4 D = some (.lst acc) ∧ acc.length < sizeLine ∧ Nx (upd H4 D (.lst (acc ++ [y]))) else Nx H3) := by
        intro a b xs ys ds H hxs hys hl hsh J S hS hw _ D nD Qd hQd
        have lx := hxs.len
        have ly := hys.len
        refine lc_it hw (fun i H2 => i ≤ xs.length ∧ Same H H2 ∧ H2 D = some (.lst (List.replicate i (.bl true)))) ⟨Nat.zero_le _, Same.upd nD, upd_same⟩ (fun i H2 _ q => hS H2 q.2.1) ?_ (fun H2 q => hQd H2 q.2.1 q.2.2)
        rintro i v H2 H3 hi ⟨_, s2, hD⟩ ⟨T, x, y, rfl, hT, rfl, ex, ey⟩
        obtain ⟨dx, hdx, qx⟩ := hxs.get ex
        obtain ⟨dy, hdy, qy⟩ := hys.get ey
        obtain rfl : dx = dy := Option.some.inj (hdx.symm.trans hdy)
        have s3 : Same H (upd H2 T (.tup [x, y])) := s2.trans (Same.upd hT)
        refine ⟨T, _, rfl, SqT.of upd_same, rfl, _, _, rfl, _, _, rfl, rfl, rfl, ?_⟩
        unfold tYes
        dsimp only
        rw [if_pos rfl]
        refine ⟨_, rfl, _, rfl, x, y, dx, rfl, qx.mono s3, qy.mono s3, hsh dx (List.mem_of_getElem? hdx), fun H4 s4 => ?_⟩
        have hDT : D ≠ T := ne_of_none hD hT
        have hD4 := s4 _ _ (show upd H2 T (.tup [x, y]) D = _ by rw [upd_ne hDT]; exact hD)
        refine ⟨_, hD4, by rw [List.length_replicate, sizeLine_eq]; omega, hi, fun c o hc => ?_, by rw [upd_same, rep_snoc]⟩
        rw [upd_ne (ne_of_none hc nD)]
        exact s4 c o (s3 c o hc)
      cases d with
      | none =>
        cases hx; cases hy
        exact ⟨_, rfl, rfl, _, rfl, iteT ⟨_, rfl, rfl, _, rfl, iteT ⟨_, rfl, rfl, k H e0⟩⟩⟩
      | bool b =>
        cases hx; cases hy
        refine ⟨_, rfl, rfl, _, rfl, iteF ⟨_, rfl, rfl, _, rfl, iteF ?_⟩⟩
        refine ⟨_, rfl, _, _, _, _, _, rfl, .ty _, (Dq.bl b).ty e0, kit_ty (kit_bool _), _, rfl, iteT ?_⟩
        refine ⟨_, rfl, _, _, _, _, _, rfl, .ty _, (Dq.bl b).ty e0, kit_ty (kit_bool _), _, rfl, iteT ?_⟩
        refine ⟨_, rfl, _, _, _, _, _, rfl, .ty _, (Dq.bl b).ty e0, kit_ty (kit_bool _), _, rfl, iteT ?_⟩
        refine ⟨_, rfl, _, rfl, rfl, ?_⟩
        rw [decide_eq_true rfl]
        exact k H e0
      | int i =>
        cases hx; cases hy
        refine ⟨_, rfl, rfl, _, rfl, iteF ⟨_, rfl, rfl, _, rfl, iteF ?_⟩⟩
        refine ⟨_, rfl, _, _, _, _, _, rfl, .ty _, (Dq.int i).ty e0, kit_ty (kit_bool _), _, rfl, iteF ⟨_, rfl, _, _, _, _, _, rfl, .ty _, (Dq.int i).ty e0, kit_ty (kit_bool _), _, rfl, iteF ?_⟩⟩
        refine ⟨_, rfl, (by show 2 ≤ sizeLine; decide), fun t1 nt1 => ⟨_, t1, _, _, _, _, rfl, upd_same, .cons (.ty _) (.cons (.ty _) .nil), (Dq.int i).ty (Same.upd nt1), kit_two _, _, rfl, iteT ?_⟩⟩
        have s1 : Same H (upd H t1 (.tup [.ty "int", .ty "str"])) := Same.upd nt1
        refine ⟨_, rfl, _, _, _, _, _, rfl, .ty _, (Dq.int i).ty s1, kit_ty (kit_int _), _, rfl, _, _, _, _, _, rfl, .ty _, (Dq.int i).ty s1, kit_ty (kit_int _), rfl, _, rfl, iteNS rfl ?_⟩
        refine ⟨_, rfl, (by show 2 ≤ sizeLine; decide), fun t2 nt2 => ⟨_, t2, _, _, _, _, rfl, upd_same, .cons (.ty _) (.cons (.ty _) .nil), (Dq.int i).ty (s1.trans (Same.upd nt2)), kit_two _, _, rfl, iteT ?_⟩⟩
        refine ⟨_, rfl, _, rfl, rfl, ?_⟩
        rw [decide_eq_true rfl]
        exact k _ (s1.trans (Same.upd nt2))
      | str x =>
        cases hx; cases hy
        refine ⟨_, rfl, rfl, _, rfl, iteF ⟨_, rfl, rfl, _, rfl, iteF ?_⟩⟩
        refine ⟨_, rfl, _, _, _, _, _, rfl, .ty _, (Dq.str x).ty e0, kit_ty (kit_bool _), _, rfl, iteF ⟨_, rfl, _, _, _, _, _, rfl, .ty _, (Dq.str x).ty e0, kit_ty (kit_bool _), _, rfl, iteF ?_⟩⟩
        refine ⟨_, rfl, (by show 2 ≤ sizeLine; decide), fun t1 nt1 => ⟨_, t1, _, _, _, _, rfl, upd_same, .cons (.ty _) (.cons (.ty _) .nil), (Dq.str x).ty (Same.upd nt1), kit_two _, _, rfl, iteT ?_⟩⟩
        have s1 : Same H (upd H t1 (.tup [.ty "int", .ty "str"])) := Same.upd nt1
        refine ⟨_, rfl, _, _, _, _, _, rfl, .ty _, (Dq.str x).ty s1, kit_ty (kit_int _), _, rfl, _, _, _, _, _, rfl, .ty _, (Dq.str x).ty s1, kit_ty (kit_int _), rfl, _, rfl, iteNS rfl ?_⟩
        refine ⟨_, rfl, (by show 2 ≤ sizeLine; decide), fun t2 nt2 => ⟨_, t2, _, _, _, _, rfl, upd_same, .cons (.ty _) (.cons (.ty _) .nil), (Dq.str x).ty (s1.trans (Same.upd nt2)), kit_two _, _, rfl, iteT ?_⟩⟩
        refine ⟨_, rfl, _, rfl, rfl, ?_⟩
        rw [decide_eq_true rfl]
        exact k _ (s1.trans (Same.upd nt2))
      | dict ds => exact hs.elim
      | list ds =>
        have hx0 := hx
        have hy0 := hy
        cases hx with
        | lst hxs hxa =>
        cases hy with
        | lst hys hya =>
        rename_i a xs b ys
        refine ⟨_, rfl, rfl, _, rfl, iteF ⟨_, rfl, rfl, _, rfl, iteF ?_⟩⟩
        refine ⟨_, rfl, _, _, _, _, _, rfl, .ty _, hy0.ty e0, kit_ty (kit_bool _), _, rfl, iteF ⟨_, rfl, _, _, _, _, _, rfl, .ty _, hx0.ty e0, kit_ty (kit_bool _), _, rfl, iteF ?_⟩⟩
        refine ⟨_, rfl, (by show 2 ≤ sizeLine; decide), fun t1 nt1 => ⟨_, t1, _, _, _, _, rfl, upd_same, .cons (.ty _) (.cons (.ty _) .nil), hy0.ty (Same.upd nt1), kit_two _, _, rfl, iteF ?_⟩⟩
        have s1 : Same H (upd H t1 (.tup [.ty "int", .ty "str"])) := Same.upd nt1
        refine ⟨_, rfl, _, _, _, _, _, rfl, .ty _, hy0.ty s1, kit_ty (kit_tuple _), _, rfl, _, _, _, _, _, rfl, .ty _, hx0.ty s1, kit_ty (kit_tuple _), rfl, _, rfl, iteNS rfl ?_⟩
        refine ⟨_, rfl, _, _, _, _, _, rfl, .ty _, hy0.ty s1, kit_ty (kit_list _), _, rfl, _, _, _, _, _, rfl, .ty _, hx0.ty s1, kit_ty (kit_list _), rfl, _, rfl, iteNS rfl ?_⟩
        have lx := hxa.len
        have ly := hya.len
        refine ⟨_, rfl, a, xs, rfl, .inl (SqL.of (s1 _ _ hxs)), _, rfl, b, ys, rfl, .inl (SqL.of (s1 _ _ hys)), rfl, _, rfl, ifF (by rw [lx, ly]; simp) ?_⟩
        refine ⟨_, rfl, _, rfl, a, b, xs, ys, rfl, .inl ⟨SqL.of (s1 _ _ hxs), SqL.of (s1 _ _ hys), fun D nD => ?_⟩⟩
        obtain ⟨W, w0, ws⟩ := seq2 a b xs ys ds (hxa.mono s1) (hya.mono s1) hs.1 hs.2 (Itz K a b) (fun H' => SqL K H' a xs ∧ SqL K H' b ys) (fun H' s' => ⟨SqL.of (s' _ _ (s1 _ _ hxs)), SqL.of (s' _ _ (s1 _ _ hys))⟩) (walk_zip (by rw [lx, ly]; simp)) (Same.refl _) D nD
          (fun H' => ∃ p zs, V.ref D = .ref p ∧ (SqL K H' p zs ∨ SqT K H' p zs) ∧ flatV (.bl false) = true ∧ zs.all flatV = true ∧ Q (.bl (!inV (.bl false) zs)) H') (fun H' s' hD => ⟨D, _, rfl, .inl (SqL.of hD), rfl, flat_true _, by rw [inV_true]; exact k H' (s1.trans s')⟩)
        exact ⟨W, w0, ws⟩
      | tuple ds =>
        have hx0 := hx
        have hy0 := hy
        cases hx with
        | tup hxs hxa =>
        cases hy with
        | tup hys hya =>
        rename_i a xs b ys
        refine ⟨_, rfl, rfl, _, rfl, iteF ⟨_, rfl, rfl, _, rfl, iteF ?_⟩⟩
        refine ⟨_, rfl, _, _, _, _, _, rfl, .ty _, hy0.ty e0, kit_ty (kit_bool _), _, rfl, iteF ⟨_, rfl, _, _, _, _, _, rfl, .ty _, hx0.ty e0, kit_ty (kit_bool _), _, rfl, iteF ?_⟩⟩
        refine ⟨_, rfl, (by show 2 ≤ sizeLine; decide), fun t1 nt1 => ⟨_, t1, _, _, _, _, rfl, upd_same, .cons (.ty _) (.cons (.ty _) .nil), hy0.ty (Same.upd nt1), kit_two _, _, rfl, iteF ?_⟩⟩
        have s1 : Same H (upd H t1 (.tup [.ty "int", .ty "str"])) := Same.upd nt1
        refine ⟨_, rfl, _, _, _, _, _, rfl, .ty _, hy0.ty s1, kit_ty (kit_tuple _), _, rfl, _, _, _, _, _, rfl, .ty _, hx0.ty s1, kit_ty (kit_tuple _), rfl, _, rfl, iteNS rfl ?_⟩
        refine ⟨_, rfl, _, _, _, _, _, rfl, .ty _, hy0.ty s1, kit_ty (kit_list _), _, rfl, _, _, _, _, _, rfl, .ty _, hx0.ty s1, kit_ty (kit_list _), rfl, _, rfl, iteNS rfl ?_⟩
        have lx := hxa.len
        have ly := hya.len
        refine ⟨_, rfl, a, xs, rfl, .inr (SqT.of (s1 _ _ hxs)), _, rfl, b, ys, rfl, .inr (SqT.of (s1 _ _ hys)), rfl, _, rfl, ifF (by rw [lx, ly]; simp) ?_⟩
        refine ⟨_, rfl, _, rfl, a, b, xs, ys, rfl, .inr ⟨SqT.of (s1 _ _ hxs), SqT.of (s1 _ _ hys), fun D nD => ?_⟩⟩
        obtain ⟨W, w0, ws⟩ := seq2 a b xs ys ds (hxa.mono s1) (hya.mono s1) hs.1 hs.2 (RZ.ItzT K a b) (fun H' => SqT K H' a xs ∧ SqT K H' b ys) (fun H' s' => ⟨SqT.of (s' _ _ (s1 _ _ hxs)), SqT.of (s' _ _ (s1 _ _ hys))⟩) (walk_zipT (by rw [lx, ly]; simp)) (Same.refl _) D nD
          (fun H' => ∃ p zs, V.ref D = .ref p ∧ (SqL K H' p zs ∨ SqT K H' p zs) ∧ flatV (.bl false) = true ∧ zs.all flatV = true ∧ Q (.bl (!inV (.bl false) zs)) H') (fun H' s' hD => ⟨D, _, rfl, .inl (SqL.of hD), rfl, flat_true _, by rw [inV_true]; exact k H' (s1.trans s')⟩)
        exact ⟨W, w0, ws⟩
end
end My

namespace My
open PySem PySem.Spec PyProof.Rows L2
/-! ### the text of a book -/
theorem lenap (a b : Str) : (a ++ b).length = a.length + b.length := Str.length_append a b
theorem join_le (B : Nat) : ∀ ts : List Str, (∀ t ∈ ts, t.length ≤ B) → (Str.join ", " ts).length ≤ ts.length * (B + 2)
  | [], _ => by show (0 : Nat) ≤ _; exact Nat.zero_le _
  | [x], h => by
    show x.length ≤ _
    have := h x List.mem_cons_self
    rw [List.length_singleton]; omega
  | x :: y :: r, h => by
    have ih := join_le B (y :: r) fun t ht => h t (List.mem_cons_of_mem _ ht)
    show (x ++ ((", " : String) : Str) ++ Str.join ", " (y :: r)).length ≤ _
    have e : (((", " : String) : Str)).length = 2 := by decide
    have hx := h x List.mem_cons_self
    rw [lenap, lenap, e, List.length_cons, Nat.add_mul]
    omega
theorem tupleText_le (B : Nat) (ts : List Str) (h : ∀ t ∈ ts, t.length ≤ B) : (tupleText ts).length ≤ ts.length * (B + 2) + 3 := by
  unfold tupleText
  have j := join_le B ts h
  have e1 : ((("(" : String) : Str)).length = 1 := by decide
  rw [lenap, lenap, e1]
  have e2 : (((if ts.length == 1 then ",)" else ")" : String) : Str)).length ≤ 2 := by
    cases ts.length == 1 <;> decide
  omega
theorem dictText_le (B : Nat) (ts : List Str) (h : ∀ t ∈ ts, t.length ≤ B) : (dictText ts).length ≤ ts.length * (B + 2) + 2 := by
  unfold dictText
  have j := join_le B ts h
  have e1 : ((("{" : String) : Str)).length = 1 := by decide
  have e2 : ((("}" : String) : Str)).length = 1 := by decide
  rw [lenap, lenap, e1, e2]
  omega
theorem shownAll_map : ∀ ds : List PyData, PyData.shownAll ds = ds.map PyData.shown
  | [] => rfl
  | d :: ds => by rw [List.map_cons, ← shownAll_map ds]; simp only [PyData.shownAll]
theorem shownKv_map : ∀ ds : List (PyData × PyData), PyData.shownKv ds = ds.map fun p => p.1.shown ++ ((": " : String) : Str) ++ p.2.shown
  | [] => rfl
  | (k, v) :: ds => by rw [List.map_cons, ← shownKv_map ds]; simp only [PyData.shownKv]
theorem showAll_of : ∀ ds : List PyData, (∀ d ∈ ds, d.showable = true) → PyData.showableAll ds = true
  | [], _ => rfl
  | d :: ds, h => by simp only [PyData.showableAll, h d List.mem_cons_self, showAll_of ds fun x hx => h x (List.mem_cons_of_mem _ hx), Bool.and_self]
theorem showKv_of : ∀ ds : List (PyData × PyData), (∀ d ∈ ds, d.1.showable = true ∧ d.2.showable = true) → PyData.showableKv ds = true
  | [], _ => rfl
  | (k, v) :: ds, h => by
    have := h (k, v) List.mem_cons_self
    simp only [PyData.showableKv, this.1, this.2, showKv_of ds fun x hx => h x (List.mem_cons_of_mem _ hx), Bool.and_self]
theorem depthAll_le (k : Nat) : ∀ ds : List PyData, (∀ d ∈ ds, d.depth ≤ k) → PyData.depthAll ds ≤ k
  | [], _ => Nat.zero_le _
  | d :: ds, h => by
    have h1 := h d List.mem_cons_self
    have h2 := depthAll_le k ds fun x hx => h x (List.mem_cons_of_mem _ hx)
    simp only [PyData.depthAll]; omega
theorem depthKv_le (k : Nat) : ∀ ds : List (PyData × PyData), (∀ d ∈ ds, d.1.depth ≤ k ∧ d.2.depth ≤ k) → PyData.depthKv ds ≤ k
  | [], _ => Nat.zero_le _
  | (a, b) :: ds, h => by
    have h1 := h (a, b) List.mem_cons_self
    have h2 := depthKv_le k ds fun x hx => h x (List.mem_cons_of_mem _ hx)
    simp only [PyData.depthKv]
    have h3 : a.depth ≤ k := h1.1
    have h4 : b.depth ≤ k := h1.2
    omega
theorem noListAll : ∀ ds : List PyData, (∀ d ∈ ds, hasList d = false) → hasListAll ds = false
  | [], _ => by simp only [hasListAll]
  | d :: ds, h => by simp only [hasListAll, h d List.mem_cons_self, noListAll ds fun x hx => h x (List.mem_cons_of_mem _ hx), Bool.or_self]
theorem noListKv : ∀ ds : List (PyData × PyData), (∀ d ∈ ds, hasList d.1 = false ∧ hasList d.2 = false) → hasListKv ds = false
  | [], _ => by simp only [hasListKv]
  | (k, v) :: ds, h => by
    have := h (k, v) List.mem_cons_self
    simp only [hasListKv, this.1, this.2, noListKv ds fun x hx => h x (List.mem_cons_of_mem _ hx), Bool.or_self]
structure Shw (B k : Nat) (d : PyData) : Prop where
  sh : d.showable = true
  ln : d.shown.length ≤ B
  dp : d.depth ≤ k
  nl : hasList d = false
theorem shw_int {i : Int} (h0 : 0 ≤ i) (h1 : i ≤ 10) : Shw 1921 0 (.int i) := by
  have hl : i.natAbs.log2 < 1920 := Nat.lt_trans (PySem.Flt.log2_lt_of (k := 1900) (by decide) (Nat.lt_of_le_of_lt (show i.natAbs ≤ 10 by omega) (by decide))) (by decide)
  refine ⟨?_, int_text_len_1921 hl, by simp only [PyData.depth]; omega, by simp only [hasList]⟩
  simp only [PyData.showable]; exact decide_eq_true hl
theorem shw_str {x : Str} (h : NameOk x) : Shw 82 0 (.str x) := by
  refine ⟨by simp only [PyData.showable], ?_, by simp only [PyData.depth]; omega, by simp only [hasList]⟩
  have := PySem.StrLaws.reprText_len x fun c hc => by have := h.lets c hc; omega
  have h8 := h.hi
  show (reprText x).length ≤ 82
  omega
theorem shw_tuple {B k n : Nat} {ds : List PyData} (h : ∀ d ∈ ds, Shw B k d) (hn : ds.length ≤ n) : Shw (n * (B + 2) + 3) (k + 1) (.tuple ds) := by
  refine ⟨by simp only [PyData.showable]; exact showAll_of ds fun d hd => (h d hd).sh, ?_, by simp only [PyData.depth]; have := depthAll_le k ds fun d hd => (h d hd).dp; omega, by simp only [hasList]; exact noListAll ds fun d hd => (h d hd).nl⟩
  simp only [PyData.shown]
  rw [shownAll_map]
  have := tupleText_le B (ds.map PyData.shown) fun t ht => by
    obtain ⟨d, hd, rfl⟩ := List.mem_map.mp ht
    exact (h d hd).ln
  rw [List.length_map] at this
  have := Nat.mul_le_mul_right (B + 2) hn
  omega
theorem Shw.up {B B' k k' : Nat} {d : PyData} (h : Shw B k d) (h1 : B ≤ B') (h2 : k ≤ k') : Shw B' k' d := ⟨h.sh, by have := h.ln; omega, by have := h.dp; omega, h.nl⟩
theorem shw_row {b : Int} {ns : List Str} {row : List (Int × Str)} {m : Nat} (hb : b ≤ 10) (hn : ∀ x ∈ ns, NameOk x) (h : RowIn b ns m row) (hm : m ≤ 12) : Shw 60000 2 (rowD row) := by
  unfold rowD
  refine (shw_tuple (B := 4000) (k := 1) (n := 12) (fun d hd => ?_) (by rw [List.length_map]; have := h.len; omega)).up (by decide) (by decide)
  obtain ⟨q, hq, rfl⟩ := List.mem_map.mp hd
  have i := h.mem q hq
  refine (shw_tuple (B := 1921) (k := 0) (n := 2) (fun d hd => ?_) (by simp)).up (by decide) (by decide)
  rcases List.mem_cons.mp hd with rfl | hd
  · exact shw_int i.1 (by have := i.2.1; omega)
  · rw [List.mem_singleton.mp hd]; exact (shw_str (hn _ i.2.2)).up (by decide) (by decide)
theorem shw_book {b : Int} {ns : List Str} {rws : List (List (Int × Str))} (B : BookOk b ns rws) : Shw 2000000 5 (bookD b ns rws) := by
  have key : ∀ d ∈ (ns.zip rws).map (fun z => (PyData.str z.1, rowD z.2)), Shw 82 0 d.1 ∧ Shw 60000 2 d.2 := fun d hd => by
    obtain ⟨z, hz, rfl⟩ := List.mem_map.mp hd
    obtain ⟨h1, h2⟩ := List.of_mem_zip hz
    exact ⟨shw_str (B.ok _ h1), shw_row B.b1 B.ok (B.rows _ h2) (by decide)⟩
  have dict : Shw 600000 3 (.dict ((ns.zip rws).map fun z => (PyData.str z.1, rowD z.2))) := by
    refine ⟨by simp only [PyData.showable]; exact showKv_of _ fun d hd => ⟨(key d hd).1.sh, (key d hd).2.sh⟩, ?_, ?_, by simp only [hasList]; exact noListKv _ fun d hd => ⟨(key d hd).1.nl, (key d hd).2.nl⟩⟩
    · simp only [PyData.shown]
      rw [shownKv_map]
      have := dictText_le 60100 (((ns.zip rws).map fun z => (PyData.str z.1, rowD z.2)).map fun p => p.1.shown ++ ((": " : String) : Str) ++ p.2.shown) fun t ht => by
        obtain ⟨d, hd, rfl⟩ := List.mem_map.mp ht
        have h1 := (key d hd).1.ln
        have h2 := (key d hd).2.ln
        have e : (((": " : String) : Str)).length = 2 := by decide
        rw [lenap, lenap, e]; omega
      have l8 : (((ns.zip rws).map fun z => (PyData.str z.1, rowD z.2)).map fun p => p.1.shown ++ ((": " : String) : Str) ++ p.2.shown).length ≤ 8 := by
        rw [List.length_map, List.length_map, List.length_zip]
        have := B.n8
        omega
      have := Nat.mul_le_mul_right (60100 + 2) l8
      omega
    · simp only [PyData.depth]
      have := depthKv_le 2 _ fun d hd => ⟨by have := (key d hd).1.dp; omega, (key d hd).2.dp⟩
      omega
  unfold bookD
  refine (shw_tuple (B := 600000) (k := 3) (n := 2) (fun d hd => ?_) (by simp)).up (by decide) (by decide)
  rcases List.mem_cons.mp hd with rfl | hd
  · exact (shw_int (by have := B.b0; omega) B.b1).up (by decide) (by decide)
  · rw [List.mem_singleton.mp hd]; exact dict
/-! ### what a standing book is -/
theorem keys_of {K : PySem.W.Frag} {G : Hp} : ∀ {kvs : List (Key × V)} {ns : List Str}, DqAll K G (kvs.map fun kv => kV kv.1) (ns.map PyData.str) → kvs.map (·.1) = ns.map Sum.inr
  | [], [], _ => rfl
  | [], _ :: _, h => by cases h
  | _ :: _, [], h => by cases h
  | (k, v) :: kvs, n :: ns, h => by
    cases h with
    | cons h1 h2 =>
      have e : k = Sum.inr n := by
        cases k with
        | inl i => exact nomatch h1
        | inr x => 
          have h1' : Dq K G (.str x) (.str n) := h1
          cases h1'
          rfl
      rw [List.map_cons, List.map_cons, keys_of h2, e]
theorem dq_book {K : PySem.W.Frag} {G : Hp} {v : V} {b : Int} {ns : List Str} {rws : List (List (Int × Str))} (hl : rws.length = ns.length) (h : Dq K G v (bookD b ns rws)) : ∃ bk rr, v = .ref bk ∧ G bk = some (.tup [.int b, .ref rr]) ∧ RowsAt K G rr ns rws := by
  cases h with
  | tup h1 h2 =>
    cases h2 with
    | cons h2 h3 =>
      cases h2
      cases h3 with
      | cons h3 h4 =>
        cases h4
        cases h3 with
        | dct g1 g2 g3 =>
          refine ⟨_, _, rfl, h1, _, g1, keys_of (by
            have e2 : ((ns.zip rws).map fun z => (PyData.str z.1, rowD z.2)).map (·.1) = ns.map PyData.str := by
              rw [List.map_map]
              have := congrArg (List.map PyData.str) (List.map_fst_zip (l₁ := ns) (l₂ := rws) (by omega))
              rw [List.map_map] at this
              exact this
            rw [e2] at g2
            exact g2), ?_⟩
          rw [zipVals hl] at g3
          exact g3
end My

namespace My
open PySem PySem.Spec PyProof.Rows L2
abbrev sLaw : Stmt := topS 13
def spLaw (K : PySem.W.Frag) : Sp := fun vs H Q _ => ∃ (a : Addr) (ns : List Int), vs = [.ref a] ∧ SqL K H a (ns.map V.int) ∧ ns.length ≤ 63 ∧ ∀ H', Q (.bl true) H'
theorem _root_.L2.Room.repr {k : Nat} {A : Around} (r : Room k A) : A.units + 111 < cLine := by have := r.un; omega
noncomputable def lvB (ns : List Str) (rws : List (List (Int × Str))) (x : Str) : Bool := @decide (Lv ns rws x) (Classical.propDecidable _)
theorem lvB_iff {ns : List Str} {rws : List (List (Int × Str))} {x : Str} : lvB ns rws x = true ↔ Lv ns rws x := by
  unfold lvB
  exact @decide_eq_true_iff _ (Classical.propDecidable _)
noncomputable def rdB (ns : List Str) (rws : List (List (Int × Str))) (x : Str) : Bool := @decide (Bh ns rws x x) (Classical.propDecidable _)
theorem rdB_iff {ns : List Str} {rws : List (List (Int × Str))} {x : Str} : rdB ns rws x = true ↔ Bh ns rws x x := by
  unfold rdB
  exact @decide_eq_true_iff _ (Classical.propDecidable _)
theorem filt_snoc {L : List Str} {i : Nat} (hi : i < L.length) (f : Str → Bool) : (L.take (i + 1)).filter f = (L.take i).filter f ++ (if f L[i] = true then [L[i]] else []) := by
  rw [List.take_add_one, List.getElem?_eq_getElem hi, List.filter_append]
  congr 1
  by_cases c : f L[i] = true
  · rw [if_pos c]; exact List.filter_cons_of_pos c
  · rw [if_neg c]; exact List.filter_cons_of_neg c
theorem mul_nat : ∀ {z : Int}, 0 ≤ z → z < 3 → ∃ mo : Nat, atI [V.int 1, V.int 2, V.int 12] z = some (.int (mo : Int)) ∧ mo ≤ 12 := by
  intro z h0 h1
  have h : z = 0 ∨ z = 1 ∨ z = 2 := by omega
  rcases h with rfl | rfl | rfl
  · exact ⟨1, rfl, by decide⟩
  · exact ⟨2, rfl, by decide⟩
  · exact ⟨12, rfl, by decide⟩
structure TxW (mg : Str → Option Value) : Prop where
  range : mg "range" = none
  sorted : mg "sorted" = none
  repr : mg "repr" = none
section
variable {P : Program} {w : World} {K : PySem.W.Frag} {mg : Str → Option Value} {base : Heap}
theorem scLaw : FnScope ["script", "pen", "turn", "base", "names", "book", "rows", "name", "round_names", "due", "behind", "before", "time", "found", "other"] ["script"] (defScope sLaw) := ⟨rfl, rfl, rfl, by decide +kernel, rfl, by decide +kernel, by decide +kernel⟩
theorem dqStrL {G : Hp} {a : Addr} {l : List Str} (h : G a = some (.lst (l.map V.str))) : Dq K G (.ref a) (.list (l.map PyData.str)) := .lst h (dqStrs l)
theorem sh_strs {l : List Str} (h : l.length ≤ 5000) : Sh 4 (.list (l.map PyData.str)) := ⟨by rw [List.length_map]; exact h, fun e he => by
  obtain ⟨x, _, rfl⟩ := List.mem_map.mp he
  trivial⟩
theorem ok_law {f fO fT fNm fBk fCh fBh fLv fS : Addr} {fd fdO fdT fdNm fdBk fdCh fdBh fdLv fdS : FuncData} (F : Fun K "law" "law" sLaw f fd) (T : TxW mg)
    (FO : Fun K "_law_open" "_law_open" sOpen fO fdO) (GO : FnOk P w K mg base CX0 1 fO fdO ["script"] (spOpen K)) (bO : Binds K fdO ["script"] []) (gO : mg "_law_open" = some (.ref fO))
    (FT : Fun K "_law_take" "_law_take" sTake fT fdT) (GT : FnOk P w K mg base CX0 2 fT fdT ["pen", "many"] spTakeC) (bT : Binds K fdT ["pen", "many"] []) (gT : mg "_law_take" = some (.ref fT))
    (FNm : Fun K "_law_names" "_law_names" sNames fNm fdNm) (GNm : FnOk P w K mg base CX0 3 fNm fdNm ["pen", "many"] spNames) (bNm : Binds K fdNm ["pen", "many"] []) (gNm : mg "_law_names" = some (.ref fNm))
    (FBk : Fun K "_law_book" "_law_book" sBook fBk fdBk) (GBk : FnOk P w K mg base CX0 4 fBk fdBk ["pen", "base", "names", "most"] (spBook K)) (bBk : Binds K fdBk ["pen", "base", "names", "most"] []) (gBk : mg "_law_book" = some (.ref fBk))
    (FCh : Fun K "_law_chain" "_law_chain" sChain fCh fdCh) (GCh : FnOk P w K mg base CX0 4 fCh fdCh ["pen", "base", "names"] (spChain K)) (bCh : Binds K fdCh ["pen", "base", "names"] []) (gCh : mg "_law_chain" = some (.ref fCh))
    (FBh : Fun K "_law_behind" "_law_behind" sBehind fBh fdBh) (GBh : FnOk P w K mg base CX0 2 fBh fdBh ["rows", "name"] (spBehind K)) (bBh : Binds K fdBh ["rows", "name"] []) (gBh : mg "_law_behind" = some (.ref fBh))
    (FLv : Fun K "live" "live" sLive fLv fdLv) (GLv : FnOk P w K mg base CX0 2 fLv fdLv ["book"] (spLive K)) (bLv : Binds K fdLv ["book"] []) (gLv : mg "live" = some (.ref fLv))
    (FS : Fun K "_law_same" "_law_same" sSame fS fdS) (GS : FnOk P w K mg base CX0 4 fS fdS ["found", "due"] (spSame K 4)) (bS : Binds K fdS ["found", "due"] []) (gS : mg "_law_same" = some (.ref fS)) :
    AtTop P w K mg base f fd ["script"] (spLaw K) := by
  refine top_ok (k := 4) F scLaw (fun vs H Q E h => ?_) ⟨rfl, by decide, by decide⟩ (fun cdv out s H vs Q E hr h => ?_)
  · obtain ⟨a, ns, rfl, _⟩ := h
    rfl
  · obtain ⟨a, ns0, rfl, hS, hlen, k⟩ := h
    have hr1 : Room 1 _ := hr.mono (by decide)
    have hr2 : Room 2 _ := hr.mono (by decide)
    have hr3 : Room 3 _ := hr.mono (by decide)
    have hr4 : Room 4 _ := hr
    refine ⟨_, (pss_cons (ps_set (i := 1) scLaw.nd rfl (Or.inl rfl) (pe_call GO hr1 (by rfl) gO FO.kp bO .nil pass0 (pa_cons (pv 0) pa_nil)))
      (pss_cons (ps_for PassesOwn.never rfl (pi_range1 (by rfl) T.range (pa_cons pe_int pa_nil)) (pg_name (i := 2) scLaw.nd rfl (Or.inl rfl)) (pss_cons (ps_set (i := 3) scLaw.nd rfl (Or.inl rfl) (pe_op op_add pe_int (pe_call GT hr2 (by rfl) gT FT.kp bT .nil pass0 (pa_cons (pv 1) (pa_cons pe_int pa_nil)))))
      (pss_cons (ps_set (i := 4) scLaw.nd rfl (Or.inl rfl) (pe_call GNm hr3 (by rfl) gNm FNm.kp bNm .nil pass0 (pa_cons (pv 1) (pa_cons (pe_op op_add pe_int (pe_call GT hr2 (by rfl) gT FT.kp bT .nil pass0 (pa_cons (pv 1) (pa_cons pe_int pa_nil)))) pa_nil))))
      (C8.pss_cut (ps_set (i := 5) scLaw.nd rfl (Or.inl rfl) (pe_call GBk hr4 (by rfl) gBk FBk.kp bBk .nil pass0 (pa_cons (pv 1) (pa_cons (pv 3) (pa_cons (pv 4) (pa_cons (pe_ix ix_list (pe_lstS (pa_cons pe_int (pa_cons pe_int (pa_cons pe_int pa_nil)))) (pe_call GT hr2 (by rfl) gT FT.kp bT .nil pass0 (pa_cons (pv 1) (pa_cons pe_int pa_nil))) (fun _ _ => rfl)) pa_nil))))))
      (C8.pss_cut (ps_if (pt_cmpR op_eq (pe_call GT hr2 (by rfl) gT FT.kp bT .nil pass0 (pa_cons (pv 1) (pa_cons pe_int pa_nil))) pe_int (nomark _)) (pss_one (ps_set (i := 5) scLaw.nd rfl (Or.inl rfl) (pe_call GCh hr4 (by rfl) gCh FCh.kp bCh .nil pass0 (pa_cons (pv 1) (pa_cons (pv 3) (pa_cons (pv 4) pa_nil)))))) pss_nil)
      (pss_cons (ps_set (i := 6) scLaw.nd rfl (Or.inr rfl) (pe_ix ix_tup (pv 5) pe_int (fun _ _ => rfl)))
      (C8.pss_cut (ps_set (i := 8) scLaw.nd rfl (Or.inr rfl) (pe_lc (own := [("name", 7)]) (g := gName 7) rfl scLaw.nd (pi_list (pv 4)) (blkOk_by (N := ["script", "pen", "turn", "base", "names", "book", "rows", "name", "round_names", "due", "behind", "before", "time", "found", "other"]) (sc := defScope sLaw) (by decide +kernel)) (fun _ _ _ _ _ => (pg_name (i := 7) scLaw.nd rfl (Or.inl rfl))) (fun _ _ _ _ _ => pts_one (pt_cmpR (show OpR _ _ (rIn K false) from op_in_seq) (pv 7) (pe_call GBh hr2 (by rfl) gBh FBh.kp bBh .nil pass0 (pa_cons (pv 6) (pa_cons (pv 7) pa_nil))) (by rfl))) (fun _ _ _ _ _ => (pv 7))))
      (pss_cons (ps_set (i := 9) scLaw.nd rfl (Or.inl rfl) (pe_lst pa_nil))
      (C8.pss_cut (ps_for PassesOwn.never rfl (pi_list (pe_callB cr_sortedS (by rfl) T.sorted boot_sorted (pa_cons (pv 4) pa_nil))) (pg_name (i := 7) scLaw.nd rfl (Or.inl rfl)) (pss_cons (ps_set (i := 10) scLaw.nd rfl (Or.inl rfl) (pe_op op_cat (pe_call GBh hr2 (by rfl) gBh FBh.kp bBh .nil pass0 (pa_cons (pv 6) (pa_cons (pv 7) pa_nil))) (pe_lstS (pa_cons (pv 7) pa_nil))))
      (pss_one (ps_if (pt_cmpR (op_neD hr.units) (pe_lc (own := [("other", 14)]) (g := gName 14) rfl scLaw.nd (pi_list (pv 10)) (blkOk_by (N := ["script", "pen", "turn", "base", "names", "book", "rows", "name", "round_names", "due", "behind", "before", "time", "found", "other"]) (sc := defScope sLaw) (by decide +kernel)) (fun _ _ _ _ _ => (pg_name (i := 14) scLaw.nd rfl (Or.inl rfl))) (fun _ _ _ _ _ => pts_one (pt_cmpR (show OpR _ _ (rIn K false) from op_in_seq) (pv 14) (pv 8) (by rfl))) (fun _ _ _ _ _ => (pv 14))) (pe_lst pa_nil) (nomark _)) (pss_one (ps_expr (pe_bm PySem.F.plainAttrs_list PySem.F.slot_list_append PySem.F.type_list_append mt_append (pv 9) (pa_cons (pv 7) pa_nil)))) pss_nil))))
      (C8.pss_cut (ps_set (i := 11) scLaw.nd rfl (Or.inl rfl) (pe_callB (cr_repr rfl hr.repr) (by rfl) T.repr boot_repr (pa_cons (pv 5) pa_nil)))
      (pss_one (ps_for PassesOwn.never rfl (pi_range1 (by rfl) T.range (pa_cons pe_int pa_nil)) (pg_name (i := 12) scLaw.nd rfl (Or.inl rfl)) (pss_cons (ps_set (i := 13) scLaw.nd rfl (Or.inl rfl) (pe_call GLv hr2 (by rfl) gLv FLv.kp bLv .nil pass0 (pa_cons (pv 5) pa_nil)))
      (pss_cons (ps_if (PW.pt (pw_or (pt_not (pt_val (pe_call GS hr4 (by rfl) gS FS.kp bS .nil pass0 (pa_cons (pv 13) (pa_cons (pv 9) pa_nil))))) (pw_or1 (pt_cmpR op_ne (pe_callB (cr_repr rfl hr.repr) (by rfl) T.repr boot_repr (pa_cons (pv 5) pa_nil)) (pv 11) (nomark _))))) (pss_one (ps_ret pe_bl)) pss_nil)
      (pss_one (ps_expr (pe_bm PySem.F.plainAttrs_list PySem.F.slot_list_append PySem.F.type_list_append mt_append (pv 13) (pa_cons pe_str pa_nil))))))))))))))))))
      (pss_one (ps_ret pe_bl)))), ?_⟩
    refine ⟨_, rfl, a, ns0, rfl, hS, hlen, fun p H1 np s1 P1 => ?_⟩
    obtain ⟨pc, C1⟩ := P1.c
    refine ⟨8, rfl, by decide, by decide, for_range (n := 8) (fun i σ H2 => ∃ (x2 x3 x4 x5 x6 x7 x8 x9 x10 x11 x12 x13 x14 : Option V), σ = [some (.ref a), some (.ref p), x2, x3, x4, x5, x6, x7, x8, x9, x10, x11, x12, x13, x14] ∧ PenC H2 p pc (1000 * i)) ⟨none, none, none, none, none, none, none, none, none, none, none, none, none, rfl, C1⟩ ?_ ?_⟩
    · rintro i σ H2 hi ⟨x2, x3, x4, x5, x6, x7, x8, x9, x10, x11, x12, x13, x14, rfl, C2⟩
      refine ⟨_, rfl, p, pc, 9, _, rfl, by decide, by decide, C2, by omega, fun m H3 m0 m1 b3 C3 => ?_⟩
      refine ⟨_, _, rfl, rfl, ?_⟩
      dsimp only
      generalize hb : 2 + m = b
      have b0 : 2 ≤ b := by omega
      have b1 : b ≤ 10 := by omega
      refine ⟨_, rfl, _, rfl, p, pc, 6, _, rfl, by decide, by decide, C3, by omega, fun m2 H4 m20 m21 b4 C4 => ?_⟩
      obtain ⟨mn, rfl⟩ : ∃ c : Nat, m2 = (c : Int) := ⟨m2.toNat, by omega⟩
      refine ⟨_, _, rfl, rfl, ?_⟩
      refine ⟨p, pc, 1 + mn, _, by rw [Int.natCast_add]; rfl, by omega, C4, by omega, fun ln ns H5 nok nln b5 C5 hln => ?_⟩
      have nl : ns.length = 1 + mn := nok.len
      have n0 : ns ≠ [] := fun z => by rw [z] at nl; simp at nl; omega
      have n8 : ns.length ≤ 8 := by omega
      have n6 : ns.length ≤ 6 := by omega
      have nok' : NamesOk ns ns.length := ⟨rfl, nok.nod, nok.ok⟩
      have lnp : ln ≠ p := pen_not C4.any nln
      refine ⟨(fun σ HA => ∃ (v : V) (rws : List (List (Int × Str))) (G : Hp) (y2 : Option V), σ = [some (.ref a), some (.ref p), y2, some (.int b), some (.ref ln), some v, x6, x7, x8, x9, x10, x11, x12, x13, x14] ∧ PenC HA p pc (1000 * i + 400) ∧ Same G HA ∧ G p = none ∧ HA ln = some (.lst (ns.map V.str)) ∧ Dq K G v (bookD b ns rws) ∧ BookOk b ns rws), ?_, ?_⟩
      · refine ⟨_, rfl, _, rfl, _, rfl, (by show 3 ≤ sizeLine; decide), fun l3 H6 s6 nl3 hl3 => ?_⟩
        have l3p : l3 ≠ p := pen_not C5.any nl3
        refine ⟨_, rfl, p, pc, 3, _, rfl, by decide, by decide, C5.same s6 (Nat.le_refl _), by omega, fun z H7 z0 z1 b7 C7 => ?_⟩
        obtain ⟨mo, hmo, mo12⟩ := mul_nat z0 z1
        refine ⟨l3, _, z, _, rfl, rfl, SqL.of (b7 _ _ l3p hl3), hmo, ?_⟩
        have hln7 := b7 _ _ lnp (s6 _ _ hln)
        refine ⟨p, pc, ln, b, ns, mo, _, fun _ => none, rfl, b0, b1, n0, nok', n8, mo12, C7, by omega, same0 _, rfl, lnp, hln7, fun v rws G8 H8 m8 C8' dq8 B8 => ?_⟩
        exact ⟨v, rws, G8, _, rfl, C8'.same (Same.refl _) (by omega), m8.gh, m8.gp rfl, m8.bt _ _ lnp hln7, dq8, B8⟩
      rintro σ HA ⟨v, rws, G, y2, rfl, CA, gA, gpA, lnA, dqA, BA⟩
      refine ⟨(fun σ HA => ∃ (v : V) (rws : List (List (Int × Str))) (G : Hp) (y2 : Option V), σ = [some (.ref a), some (.ref p), y2, some (.int b), some (.ref ln), some v, x6, x7, x8, x9, x10, x11, x12, x13, x14] ∧ PenC HA p pc (1000 * i + 800) ∧ Same G HA ∧ G p = none ∧ HA ln = some (.lst (ns.map V.str)) ∧ Dq K G v (bookD b ns rws) ∧ BookOk b ns rws), ?_, ?_⟩
      · refine ⟨_, rfl, p, pc, 3, _, rfl, by decide, by decide, CA, by omega, fun c H9 c0 c1 b9 C9 => ?_⟩
        have lnB := b9 _ _ lnp lnA
        refine ⟨rfl, _, rfl, ite2 (fun _ => ?_) (fun _ => ⟨v, rws, G, y2, rfl, C9.same (Same.refl _) (by omega), same_but gA gpA b9, gpA, lnB, dqA, BA⟩)⟩
        exact ⟨_, rfl, _, rfl, _, rfl, p, pc, ln, b, ns, _, fun _ => none, rfl, b0, b1, n0, nok', n8, C9, by omega, same0 _, rfl, lnp, lnB, fun v rws G8 H8 m8 C8' dq8 B8 => ⟨v, rws, G8, y2, rfl, C8'.same (Same.refl _) (by omega), m8.gh, m8.gp rfl, m8.bt _ _ lnp lnB, dq8, B8⟩⟩
      rintro σ HA ⟨v, rws, G, y2, rfl, CA, gA, gpA, lnA, dqA, BA⟩
      obtain ⟨bk, rr, rfl, gbk, RA⟩ := dq_book BA.len dqA
      refine ⟨_, rfl, bk, _, 1, .ref rr, rfl, rfl, SqT.of (gA _ _ gbk), atI_nat (j := 1) rfl, ?_⟩
      -- the names that come back
      refine ⟨(fun σ HB => ∃ (rn : Addr) (RN : List Str) (y7 : Option V), σ = [some (.ref a), some (.ref p), y2, some (.int b), some (.ref ln), some (.ref bk), some (.ref rr), y7, some (.ref rn), x9, x10, x11, x12, x13, x14] ∧ Same HA HB ∧ HB rn = some (.lst (RN.map V.str)) ∧ (∀ y, y ∈ RN ↔ y ∈ ns ∧ Bh ns rws y y)), ?_, ?_⟩
      · refine ⟨_, rfl, ln, rfl, ⟨_, SqL.of lnA⟩, fun D nD => ?_⟩
        refine lc_it (walk_list (K := K) (a := ln) (xs := ns.map V.str)) (fun j Hi => Same HA Hi ∧ Hi D = some (.lst (((ns.take j).filter (rdB ns rws)).map V.str))) ⟨Same.upd nD, upd_same⟩ (fun j Hi _ q => SqL.of (q.1 _ _ lnA)) ?_ ?_
        · rintro j x Hi Hj hj ⟨sj, hD⟩ ⟨rfl, hx⟩
          rw [List.length_map] at hj
          rw [List.getElem?_map, List.getElem?_eq_getElem hj] at hx
          obtain rfl := (Option.some.inj hx).symm
          have nin : ns[j] ∈ ns := List.getElem_mem hj
          refine ⟨rfl, ?_⟩
          refine ⟨_, rfl, _, rfl, _, rfl, rr, ns[j], b, ns, rws, G, rfl, gA.trans sj, RA, BA, nin, fun l F Hk sk nl' hl hF F8 => ?_⟩
          refine ⟨l, _, rfl, .inl (SqL.of hl), rfl, flat_strs _, _, rfl, ?_⟩
          have hDk := sk _ _ hD
          have sAk := sj.trans sk
          have sn := filt_snoc hj (rdB ns rws)
          by_cases c : ns[j] ∈ F
          · refine ifT (by show inV (.str ns[j]) (F.map V.str) = true; rw [inV_str]; exact decide_eq_true c) ?_
            have c2 : rdB ns rws ns[j] = true := rdB_iff.mpr ((hF _).mp c)
            rw [if_pos c2] at sn
            refine ⟨_, rfl, _, hDk, by
              rw [List.length_map, sizeLine_eq]
              have := List.length_filter_le (rdB ns rws) (ns.take j)
              rw [List.length_take] at this
              omega, fun c' o hc' => ?_, by rw [upd_same, sn, List.map_append]; rfl⟩
            rw [upd_ne (ne_of_none hc' nD)]
            exact sAk c' o hc'
          · refine ifF (by show inV (.str ns[j]) (F.map V.str) = false; rw [inV_str]; exact decide_eq_false c) ?_
            have c2 : ¬ rdB ns rws ns[j] = true := fun z => c ((hF _).mpr (rdB_iff.mp z))
            rw [if_neg c2, List.append_nil] at sn
            exact ⟨sAk, by rw [sn]; exact hDk⟩
        · rintro HB ⟨sB, hD⟩
          rw [List.length_map, List.take_length] at hD
          exact ⟨D, _, _, rfl, sB, hD, fun y => by rw [List.mem_filter, rdB_iff]⟩
      rintro σ HB ⟨rn, RN, y7, rfl, sB, hrn, hRN⟩
      have gB := gA.trans sB
      have lnB := sB _ _ lnA
      -- due
      refine ⟨by decide, fun D nD => ?_⟩
      have sD : Same HB (upd HB D (.lst [])) := Same.upd nD
      refine ⟨(fun σ HC => ∃ (S : List Str) (y7 y10 : Option V), σ = [some (.ref a), some (.ref p), y2, some (.int b), some (.ref ln), some (.ref bk), some (.ref rr), y7, some (.ref rn), some (.ref D), y10, x11, x12, x13, x14] ∧ Same HB HC ∧ S.Perm ns ∧ sortedS S = true ∧ HC D = some (.lst ((S.filter (lvB ns rws)).map V.str))), ?_, ?_⟩
      · refine ⟨_, rfl, ln, ns, rfl, SqL.of (sD _ _ lnB), by omega, fun S q hp hs nq => ?_⟩
        have Sq : Same (upd HB D (.lst [])) (upd (upd HB D (.lst [])) q (.lst (S.map V.str))) := Same.upd nq
        have Dq' : D ≠ q := ne_of_none upd_same nq
        have nqB : HB q = none := sD.free nq
        refine ⟨q, rfl, ⟨_, SqL.of upd_same⟩, for_it (walk_list (K := K) (a := q) (xs := S.map V.str)) (fun j σ Hi => (∃ y7 y10 : Option V, σ = [some (.ref a), some (.ref p), y2, some (.int b), some (.ref ln), some (.ref bk), some (.ref rr), y7, some (.ref rn), some (.ref D), y10, x11, x12, x13, x14]) ∧ Same HB Hi ∧ Hi q = some (.lst (S.map V.str)) ∧ Hi D = some (.lst (((S.take j).filter (lvB ns rws)).map V.str)))
          ⟨⟨_, _, rfl⟩, sD.trans Sq, upd_same, Sq _ _ upd_same⟩ (fun j σ Hi _ q' => SqL.of q'.2.2.1) ?_ ?_⟩
        · rintro j x σ Hi Hj hj ⟨⟨z7, z10, rfl⟩, sj, hq, hD⟩ ⟨rfl, hx⟩
          rw [List.length_map] at hj
          rw [List.getElem?_map, List.getElem?_eq_getElem hj] at hx
          obtain rfl := (Option.some.inj hx).symm
          have nin : S[j] ∈ ns := hp.mem_iff.mp (List.getElem_mem hj)
          have sn := filt_snoc hj (lvB ns rws)
          generalize S[j] = nm at nin sn
          refine ⟨_, rfl, _, rfl, rr, nm, b, ns, rws, G, rfl, gB.trans sj, RA, BA, nin, fun l F Hk sk nl' hl hF F8 => ?_⟩
          refine ⟨_, rfl, (by show 1 ≤ sizeLine; decide), fun l2 Hl s2 _ hl2 => ⟨l, l2, _, _, rfl, rfl, s2 _ _ hl, hl2, by rw [List.length_map, sizeLine_eq]; simp only [List.length_cons, List.length_nil]; omega, fun l4 nl4 => ?_⟩⟩
          have eBB : F.map V.str ++ [V.str nm] = (F ++ [nm]).map V.str := by rw [List.map_append]; rfl
          rw [eBB]
          have s4 : Same Hl (upd Hl l4 (.lst ((F ++ [nm]).map V.str))) := Same.upd nl4
          have hl4 : (upd Hl l4 (.lst ((F ++ [nm]).map V.str))) l4 = some (.lst ((F ++ [nm]).map V.str)) := upd_same
          have sj4 := ((sj.trans sk).trans s2).trans s4
          have hq4 := s4 _ _ (s2 _ _ (sk _ _ hq))
          have hD4 := s4 _ _ (s2 _ _ (sk _ _ hD))
          generalize upd Hl l4 (.lst ((F ++ [nm]).map V.str)) = Hm at hl4 sj4 hq4 hD4
          have BBin : ∀ y ∈ F ++ [nm], y ∈ ns := fun y hy => by
            rcases List.mem_append.mp hy with hy | hy
            · exact bh_in BA ((hF y).mp hy)
            · rw [List.mem_singleton.mp hy]; exact nin
          have BBl : (F ++ [nm]).length ≤ 9 := by rw [List.length_append]; simp only [List.length_cons, List.length_nil]; omega
          have BBlv : (∃ o, o ∈ F ++ [nm] ∧ o ∈ RN) ↔ Lv ns rws nm := by
            constructor
            · rintro ⟨o, h1, h2⟩
              refine ⟨o, ?_, ((hRN o).mp h2).2⟩
              rcases List.mem_append.mp h1 with h1 | h1
              · exact .inr ((hF o).mp h1)
              · exact .inl (List.mem_singleton.mp h1)
            · rintro ⟨o, h1, h2⟩
              refine ⟨o, ?_, (hRN o).mpr ⟨bh_in BA h2, h2⟩⟩
              rcases h1 with rfl | h1
              · exact List.mem_append_right _ List.mem_cons_self
              · exact List.mem_append_left _ ((hF o).mpr h1)
          generalize F ++ [nm] = BB at hl4 BBin BBl BBlv
          -- other in round_names
          refine ⟨_, rfl, l4, rfl, ⟨_, SqL.of hl4⟩, fun E nE => ?_⟩
          have hrn4 := sj4 _ _ hrn
          refine lc_it (walk_list (K := K) (a := l4) (xs := BB.map V.str)) (fun t Hi => Same Hm Hi ∧ Hi E = some (.lst (((BB.take t).filter fun y => decide (y ∈ RN)).map V.str))) ⟨Same.upd nE, upd_same⟩ (fun t Hi _ q => SqL.of (q.1 _ _ hl4)) ?_ ?_
          · rintro t x Hn Ho ht ⟨st, hE⟩ ⟨rfl, hx⟩
            rw [List.length_map] at ht
            rw [List.getElem?_map, List.getElem?_eq_getElem ht] at hx
            obtain rfl := (Option.some.inj hx).symm
            refine ⟨rfl, ?_⟩
            refine ⟨_, rfl, _, rfl, rn, _, rfl, .inl (SqL.of (st _ _ hrn4)), rfl, flat_strs _, _, rfl, ?_⟩
            have sn2 := filt_snoc ht (fun y => decide (y ∈ RN))
            by_cases c : BB[t] ∈ RN
            · refine ifT (by show inV (.str BB[t]) (RN.map V.str) = true; rw [inV_str]; exact decide_eq_true c) ?_
              rw [if_pos (decide_eq_true c)] at sn2
              refine ⟨_, rfl, _, hE, by
                rw [List.length_map, sizeLine_eq]
                have := List.length_filter_le (fun y => decide (y ∈ RN)) (BB.take t)
                rw [List.length_take] at this
                omega, fun c' o hc' => ?_, by rw [upd_same, sn2, List.map_append]; rfl⟩
              rw [upd_ne (ne_of_none hc' nE)]
              exact st c' o hc'
            · refine ifF (by show inV (.str BB[t]) (RN.map V.str) = false; rw [inV_str]; exact decide_eq_false c) ?_
              rw [if_neg (by simpa using c), List.append_nil] at sn2
              exact ⟨st, by rw [sn2]; exact hE⟩
          · rintro Hn ⟨st, hE⟩
            rw [List.length_map, List.take_length] at hE
            refine ⟨by decide, fun t0 nt0 => ?_⟩
            have s0 : Same Hn (upd Hn t0 (.lst [])) := Same.upd nt0
            refine ⟨.list ((BB.filter fun y => decide (y ∈ RN)).map PyData.str), .list (([] : List Str).map PyData.str), dp_sl (s0 _ _ hE), dp_sl (l := []) upd_same, shaped_sl _ (fun y hy => (BA.ok y (BBin y (List.mem_filter.mp hy).1)).lets), shaped_sl [] (fun _ h => nomatch h), _, rfl, ?_⟩
            rw [eqv_sl]
            have sAll := (sj4.trans st).trans s0
            have hq5 := s0 _ _ (st _ _ hq4)
            have hD5 := s0 _ _ (st _ _ hD4)
            generalize upd Hn t0 (.lst []) = Hp5 at sAll hq5 hD5
            by_cases c : Lv ns rws nm
            · obtain ⟨o, h1, h2⟩ := BBlv.mpr c
              have ne : (BB.filter fun y => decide (y ∈ RN)) ≠ [] := fun z => by
                have : o ∈ BB.filter fun y => decide (y ∈ RN) := List.mem_filter.mpr ⟨h1, decide_eq_true h2⟩
                rw [z] at this
                exact nomatch this
              refine ifT (by rw [decide_eq_false ne]; rfl) ?_
              rw [if_pos (lvB_iff.mpr c)] at sn
              refine ⟨_, rfl, .inl ⟨rfl, _, SqL.of hD5⟩, _, rfl, D, _, _, rfl, rfl, hD5, by
                rw [List.length_map, sizeLine_eq]
                have := List.length_filter_le (lvB ns rws) (S.take j)
                rw [List.length_take] at this
                have := hp.length_eq
                omega, ?_⟩
              refine ⟨⟨_, _, rfl⟩, fun c' o hc' => ?_, by rw [upd_ne Dq'.symm]; exact hq5, by rw [upd_same, sn, List.map_append]; rfl⟩
              rw [upd_ne (ne_of_none hc' nD)]
              exact sAll c' o hc'
            · have em : (BB.filter fun y => decide (y ∈ RN)) = [] := List.filter_eq_nil_iff.mpr fun y hy z => c (BBlv.mp ⟨y, hy, of_decide_eq_true z⟩)
              refine ifF (by rw [decide_eq_true em]; rfl) ?_
              rw [if_neg (fun z => c (lvB_iff.mp z)), List.append_nil] at sn
              exact ⟨⟨_, _, rfl⟩, sAll, hq5, by rw [sn]; exact hD5⟩
        · rintro σ Hi ⟨⟨z7, z10, rfl⟩, sj, hq, hD⟩
          rw [List.length_map, List.take_length] at hD
          exact ⟨S, _, _, rfl, sj, hp, hs, hD⟩
      rintro σ HC ⟨S, z7, z10, rfl, sC, hp, hs, hD⟩
      have gC := gB.trans sC
      have sw := shw_book BA
      have sz : (bookD b ns rws).shown.length ≤ sizeLine := by have := sw.ln; rw [sizeLine_eq]; omega
      have dp : (bookD b ns rws).depth ≤ 100 := by have := sw.dp; omega
      refine ⟨(fun σ HD => ∃ tx : Str, tx = (bookD b ns rws).shown ∧ σ = [some (.ref a), some (.ref p), y2, some (.int b), some (.ref ln), some (.ref bk), some (.ref rr), z7, some (.ref rn), some (.ref D), z10, some (.str tx), x12, x13, x14] ∧ HD = HC),
        ⟨_, rfl, .ref bk, bookD b ns rws, G, rfl, gC, dqA, sw.sh, (fun _ => sw.nl), dp, sz, _, rfl, rfl, rfl⟩, ?_⟩
      rintro σ HD ⟨tx, htx, rfl, rfl⟩
      refine ⟨2, rfl, by decide, by decide, for_range (n := 2) (fun j σ H9 => (∃ y12 y13 : Option V, σ = [some (.ref a), some (.ref p), y2, some (.int b), some (.ref ln), some (.ref bk), some (.ref rr), z7, some (.ref rn), some (.ref D), z10, some (.str tx), y12, y13, x14]) ∧ Same HD H9) ⟨⟨_, _, rfl⟩, Same.refl _⟩ ?_ ?_⟩
      · rintro j σ H9 hj ⟨⟨y12, y13, rfl⟩, s9⟩
        have g9 := gC.trans s9
        refine ⟨_, rfl, bk, rr, b, ns, rws, G, rfl, g9, gbk, RA, BA, fun l S' L H10 s10 nl' hl hp' hs' la fx => ?_⟩
        have eS : S' = S := sorted_one (hp'.trans hp.symm) hs' hs
        subst eS
        have eL : L = S'.filter (lvB ns rws) := la.fixF fx fun x _ => lvB_iff
        rw [eL] at hl
        have hD10 := s10 _ _ (s9 _ _ hD)
        have Sl : (S'.filter (lvB ns rws)).length ≤ 5000 := by
          have := List.length_filter_le (lvB ns rws) S'
          have := hp.length_eq
          omega
        refine ⟨_, rfl, _, rfl, .ref l, .ref D, .list ((S'.filter (lvB ns rws)).map PyData.str), rfl, dqStrL hl, dqStrL hD10, sh_strs Sl, fun H11 s11 => ?_⟩
        refine ⟨_, rfl, iteF ?_⟩
        refine ⟨_, rfl, .ref bk, bookD b ns rws, G, rfl, (g9.trans s10).trans s11, dqA, sw.sh, (fun _ => sw.nl), dp, sz, ?_⟩
        refine ⟨_, rfl, rfl, _, rfl, ?_⟩
        refine ifF (by rw [htx]; simp) ?_
        have hl11 := s11 _ _ hl
        refine ⟨_, rfl, .inl ⟨rfl, _, SqL.of hl11⟩, l, _, _, rfl, rfl, hl11, by rw [List.length_map, sizeLine_eq]; omega, ⟨_, _, rfl⟩, fun c' o hc' => ?_⟩
        rw [upd_ne (ne_of_none (s9 c' o hc') nl')]
        exact s11 _ _ (s10 _ _ (s9 c' o hc'))
      · rintro σ H9 ⟨⟨y12, y13, rfl⟩, s9⟩
        exact ⟨_, _, _, _, _, _, _, _, _, _, _, _, _, rfl, (CA.same (((sB.trans sC).trans s9)) (by omega))⟩
    · rintro σ H2 ⟨x2, x3, x4, x5, x6, x7, x8, x9, x10, x11, x12, x13, x14, rfl, P2⟩
      exact k H2
end
end My

namespace My
open PySem PySem.Spec PyProof.Rows L2
theorem all_mk {l : PySem.W.OpenLaw} {w : World} {K : PySem.W.Frag} {h : Heap} {mg : Str → Option Value} {fa f1 f2 f3 f4 f5 f6 f7 f8 f9 f10 f11 f12 : Addr} (X : K.In h) (G : h.Ns mainGlobals mg) (hfa : mg "law" = some (.ref fa))
    {od1 an1 od2 an2 od3 an3 od4 an4 od5 an5 od6 an6 od7 an7 od8 an8 od9 an9 od10 an10 od11 an11 od12 an12 : Option Addr} {sl1 sl2 sl3 sl4 sl5 sl6 sl7 sl8 sl9 sl10 sl11 sl12 : Array (Option Value)} {oc1 kV1 dc1 pm1 cd1 ct1 oc2 kV2 dc2 pm2 cd2 ct2 oc3 kV3 dc3 pm3 cd3 ct3 oc4 kV4 dc4 pm4 cd4 ct4 oc5 kV5 dc5 pm5 cd5 ct5 oc6 kV6 dc6 pm6 cd6 ct6 oc7 kV7 dc7 pm7 cd7 ct7 oc8 kV8 dc8 pm8 cd8 ct8 oc9 kV9 dc9 pm9 cd9 ct9 oc10 kV10 dc10 pm10 cd10 ct10 oc11 kV11 dc11 pm11 cd11 ct11 oc12 kV12 dc12 pm12 cd12 ct12 : Value}
    (a1 : PySem.W.nsIn K mainGlobals "live" = some (some (.ref f1))) (l1 : K.lookup f1 = some ⟨oc1, od1, .func (PySem.W.fnOf "live" "live" (defArgs sLive) (defBody sLive) (defScope sLive) .none kV1 dc1 pm1 an1 cd1 ct1), sl1⟩) (c1 : PySem.W.codeIn K cd1 "live" = true) (k1 : PySem.W.keepIn K (.ref f1) = true)
    (a2 : PySem.W.nsIn K mainGlobals "_leads_to" = some (some (.ref f2))) (l2 : K.lookup f2 = some ⟨oc2, od2, .func (PySem.W.fnOf "_leads_to" "_leads_to" (defArgs sLeads) (defBody sLeads) (defScope sLeads) .none kV2 dc2 pm2 an2 cd2 ct2), sl2⟩) (c2 : PySem.W.codeIn K cd2 "_leads_to" = true) (k2 : PySem.W.keepIn K (.ref f2) = true)
    (a3 : PySem.W.nsIn K mainGlobals "_law_spread" = some (some (.ref f3))) (l3 : K.lookup f3 = some ⟨oc3, od3, .func (PySem.W.fnOf "_law_spread" "_law_spread" (defArgs sSpread) (defBody sSpread) (defScope sSpread) .none kV3 dc3 pm3 an3 cd3 ct3), sl3⟩) (c3 : PySem.W.codeIn K cd3 "_law_spread" = true) (k3 : PySem.W.keepIn K (.ref f3) = true)
    (a4 : PySem.W.nsIn K mainGlobals "_law_open" = some (some (.ref f4))) (l4 : K.lookup f4 = some ⟨oc4, od4, .func (PySem.W.fnOf "_law_open" "_law_open" (defArgs sOpen) (defBody sOpen) (defScope sOpen) .none kV4 dc4 pm4 an4 cd4 ct4), sl4⟩) (c4 : PySem.W.codeIn K cd4 "_law_open" = true) (k4 : PySem.W.keepIn K (.ref f4) = true)
    (a5 : PySem.W.nsIn K mainGlobals "_law_take" = some (some (.ref f5))) (l5 : K.lookup f5 = some ⟨oc5, od5, .func (PySem.W.fnOf "_law_take" "_law_take" (defArgs sTake) (defBody sTake) (defScope sTake) .none kV5 dc5 pm5 an5 cd5 ct5), sl5⟩) (c5 : PySem.W.codeIn K cd5 "_law_take" = true) (k5 : PySem.W.keepIn K (.ref f5) = true)
    (a6 : PySem.W.nsIn K mainGlobals "_law_same" = some (some (.ref f6))) (l6 : K.lookup f6 = some ⟨oc6, od6, .func (PySem.W.fnOf "_law_same" "_law_same" (defArgs sSame) (defBody sSame) (defScope sSame) .none kV6 dc6 pm6 an6 cd6 ct6), sl6⟩) (c6 : PySem.W.codeIn K cd6 "_law_same" = true) (k6 : PySem.W.keepIn K (.ref f6) = true)
    (a7 : PySem.W.nsIn K mainGlobals "_law_names" = some (some (.ref f7))) (l7 : K.lookup f7 = some ⟨oc7, od7, .func (PySem.W.fnOf "_law_names" "_law_names" (defArgs sNames) (defBody sNames) (defScope sNames) .none kV7 dc7 pm7 an7 cd7 ct7), sl7⟩) (c7 : PySem.W.codeIn K cd7 "_law_names" = true) (k7 : PySem.W.keepIn K (.ref f7) = true)
    (a8 : PySem.W.nsIn K mainGlobals "_law_row" = some (some (.ref f8))) (l8 : K.lookup f8 = some ⟨oc8, od8, .func (PySem.W.fnOf "_law_row" "_law_row" (defArgs sRow) (defBody sRow) (defScope sRow) .none kV8 dc8 pm8 an8 cd8 ct8), sl8⟩) (c8 : PySem.W.codeIn K cd8 "_law_row" = true) (k8 : PySem.W.keepIn K (.ref f8) = true)
    (a9 : PySem.W.nsIn K mainGlobals "_law_book" = some (some (.ref f9))) (l9 : K.lookup f9 = some ⟨oc9, od9, .func (PySem.W.fnOf "_law_book" "_law_book" (defArgs sBook) (defBody sBook) (defScope sBook) .none kV9 dc9 pm9 an9 cd9 ct9), sl9⟩) (c9 : PySem.W.codeIn K cd9 "_law_book" = true) (k9 : PySem.W.keepIn K (.ref f9) = true)
    (a10 : PySem.W.nsIn K mainGlobals "_law_behind" = some (some (.ref f10))) (l10 : K.lookup f10 = some ⟨oc10, od10, .func (PySem.W.fnOf "_law_behind" "_law_behind" (defArgs sBehind) (defBody sBehind) (defScope sBehind) .none kV10 dc10 pm10 an10 cd10 ct10), sl10⟩) (c10 : PySem.W.codeIn K cd10 "_law_behind" = true) (k10 : PySem.W.keepIn K (.ref f10) = true)
    (a11 : PySem.W.nsIn K mainGlobals "_law_chain" = some (some (.ref f11))) (l11 : K.lookup f11 = some ⟨oc11, od11, .func (PySem.W.fnOf "_law_chain" "_law_chain" (defArgs sChain) (defBody sChain) (defScope sChain) .none kV11 dc11 pm11 an11 cd11 ct11), sl11⟩) (c11 : PySem.W.codeIn K cd11 "_law_chain" = true) (k11 : PySem.W.keepIn K (.ref f11) = true)
    (a12 : PySem.W.nsIn K mainGlobals "law" = some (some (.ref f12))) (l12 : K.lookup f12 = some ⟨oc12, od12, .func (PySem.W.fnOf "law" "law" (defArgs sLaw) (defBody sLaw) (defScope sLaw) .none kV12 dc12 pm12 an12 cd12 ct12), sl12⟩) (c12 : PySem.W.codeIn K cd12 "law" = true) (k12 : PySem.W.keepIn K (.ref f12) = true)
    (z_isinstance : PySem.W.nsIn K mainGlobals "isinstance" = some none)
    (z_int : PySem.W.nsIn K mainGlobals "int" = some none)
    (z_bool : PySem.W.nsIn K mainGlobals "bool" = some none)
    (z_str : PySem.W.nsIn K mainGlobals "str" = some none)
    (z_tuple : PySem.W.nsIn K mainGlobals "tuple" = some none)
    (z_list : PySem.W.nsIn K mainGlobals "list" = some none)
    (z_len : PySem.W.nsIn K mainGlobals "len" = some none)
    (z_zip : PySem.W.nsIn K mainGlobals "zip" = some none)
    (z_enumerate : PySem.W.nsIn K mainGlobals "enumerate" = some none)
    (z_range : PySem.W.nsIn K mainGlobals "range" = some none)
    (z_sorted : PySem.W.nsIn K mainGlobals "sorted" = some none)
    (z_dict : PySem.W.nsIn K mainGlobals "dict" = some none)
    (z_any : PySem.W.nsIn K mainGlobals "any" = some none)
    (z_repr : PySem.W.nsIn K mainGlobals "repr" = some none)
    : ∃ fd : FuncData, (∀ (s : Shared) (v : Value), BindsTo s fd ⟨[v], []⟩ [("script", v)]) ∧ ∀ base : Heap, K.In base → base.Ns mainGlobals mg → AtTop l.prog w K mg base fa fd ["script"] (spLaw K) := by
  have e := hfa.symm.trans (PySem.W.mg_of X G a12)
  cases e
  have F1 := fun_mk (st := sLive) l1 c1 k1; have g1 := PySem.W.mg_of X G a1
  have F2 := fun_mk (st := sLeads) l2 c2 k2; have g2 := PySem.W.mg_of X G a2
  have F3 := fun_mk (st := sSpread) l3 c3 k3; have g3 := PySem.W.mg_of X G a3
  have F4 := fun_mk (st := sOpen) l4 c4 k4; have g4 := PySem.W.mg_of X G a4
  have F5 := fun_mk (st := sTake) l5 c5 k5; have g5 := PySem.W.mg_of X G a5
  have F6 := fun_mk (st := sSame) l6 c6 k6; have g6 := PySem.W.mg_of X G a6
  have F7 := fun_mk (st := sNames) l7 c7 k7; have g7 := PySem.W.mg_of X G a7
  have F8 := fun_mk (st := sRow) l8 c8 k8; have g8 := PySem.W.mg_of X G a8
  have F9 := fun_mk (st := sBook) l9 c9 k9; have g9 := PySem.W.mg_of X G a9
  have F10 := fun_mk (st := sBehind) l10 c10 k10; have g10 := PySem.W.mg_of X G a10
  have F11 := fun_mk (st := sChain) l11 c11 k11; have g11 := PySem.W.mg_of X G a11
  have F12 := fun_mk (st := sLaw) l12 c12 k12; have g12 := PySem.W.mg_of X G a12
  have m_isinstance := PySem.W.mg_none_of X G z_isinstance
  have m_int := PySem.W.mg_none_of X G z_int
  have m_bool := PySem.W.mg_none_of X G z_bool
  have m_str := PySem.W.mg_none_of X G z_str
  have m_tuple := PySem.W.mg_none_of X G z_tuple
  have m_list := PySem.W.mg_none_of X G z_list
  have m_len := PySem.W.mg_none_of X G z_len
  have m_zip := PySem.W.mg_none_of X G z_zip
  have m_enumerate := PySem.W.mg_none_of X G z_enumerate
  have m_range := PySem.W.mg_none_of X G z_range
  have m_sorted := PySem.W.mg_none_of X G z_sorted
  have m_dict := PySem.W.mg_none_of X G z_dict
  have m_any := PySem.W.mg_none_of X G z_any
  have m_repr := PySem.W.mg_none_of X G z_repr
  have b1 := F1.binds (ps := ["book"]) fun _ _ _ _ _ _ us hl => match us, hl with | [_], _ => rfl
  have b2 := F2.binds (ps := ["row", "names"]) fun _ _ _ _ _ _ us hl => match us, hl with | [_, _], _ => rfl
  have b3 := F3.binds (ps := ["cell", "at"]) fun _ _ _ _ _ _ us hl => match us, hl with | [_, _], _ => rfl
  have b4 := F4.binds (ps := ["script"]) fun _ _ _ _ _ _ us hl => match us, hl with | [_], _ => rfl
  have b5 := F5.binds (ps := ["pen", "many"]) fun _ _ _ _ _ _ us hl => match us, hl with | [_, _], _ => rfl
  have b6 := F6.binds (ps := ["found", "due"]) fun _ _ _ _ _ _ us hl => match us, hl with | [_, _], _ => rfl
  have b7 := F7.binds (ps := ["pen", "many"]) fun _ _ _ _ _ _ us hl => match us, hl with | [_, _], _ => rfl
  have b8 := F8.binds (ps := ["pen", "base", "names", "most"]) fun _ _ _ _ _ _ us hl => match us, hl with | [_, _, _, _], _ => rfl
  have b9 := F9.binds (ps := ["pen", "base", "names", "most"]) fun _ _ _ _ _ _ us hl => match us, hl with | [_, _, _, _], _ => rfl
  have b10 := F10.binds (ps := ["rows", "name"]) fun _ _ _ _ _ _ us hl => match us, hl with | [_, _], _ => rfl
  have b11 := F11.binds (ps := ["pen", "base", "names"]) fun _ _ _ _ _ _ us hl => match us, hl with | [_, _, _], _ => rfl
  have TS : TxS mg := ⟨m_isinstance, m_int, m_bool, m_str, m_tuple, m_list, m_len, m_zip⟩
  refine ⟨PySem.W.fnOf "law" "law" (defArgs sLaw) (defBody sLaw) (defScope sLaw) .none kV12 dc12 pm12 an12 cd12 ct12, fun s v => .of_eq rfl, fun base _ _ => ?_⟩
  have GT := ok_takeC (P := l.prog) (w := w) (base := base) F5 m_len F3 b3 g3
  have GS := ok_same (P := l.prog) (w := w) (base := base) F6 TS b6 g6 4
  have GNm := ok_names (P := l.prog) (w := w) (base := base) F7 ⟨m_len, m_range⟩ F5 GT b5 g5
  have GRw := ok_row (P := l.prog) (w := w) (base := base) F8 ⟨m_len, m_range, m_tuple, m_sorted⟩ F5 GT b5 g5
  have GBk := ok_book (P := l.prog) (w := w) (base := base) F9 ⟨m_len, m_range, m_tuple, m_sorted, m_dict⟩ F5 GT b5 g5 F8 GRw b8 g8
  have GCh := ok_chain (P := l.prog) (w := w) (base := base) F11 ⟨m_len, m_tuple, m_enumerate⟩ F5 GT b5 g5
  have GBh := ok_behind (P := l.prog) (w := w) (mg := mg) (base := base) F10
  have GLv := ok_live (P := l.prog) (w := w) (base := base) F1 ⟨m_any, m_sorted⟩ F2 b2 g2
  exact ok_law F12 ⟨m_range, m_sorted, m_repr⟩ F4 (ok_open F4 m_list m_enumerate) b4 g4 F5 GT b5 g5 F7 GNm b7 g7 F9 GBk b9 g9 F11 GCh b11 g11 F10 GBh b10 g10 F1 GLv b1 g1 F6 GS b6 g6
end My
open PySem PySem.W PyProof.Rows
set_option maxRecDepth 100000 in
set_option maxHeartbeats 0 in
theorem PySem.Challenge.cw_dustwithin_k04_names_with_endless_ways_holds : PySem.Challenge.rw_dustwithin_k04_names_with_endless_ways.Holds := by
  w_on; o_law; k_head; (case hw => w_witness2)
  k_fill
  refine My.walk_top (l := PySem.Challenge.rw_dustwithin_k04_names_with_endless_ways) (n := 63) (x := "script") (sp := fun w => My.spLaw _) rfl (by decide) rfl (fun w h Y => PySem.W.kIn_of Y) ?F (fun _ _ a ns hl _ hS => ⟨a, ns, rfl, hS, hl, fun _ => rfl⟩)
  case F =>
    intro w mg fa h KX G hmg
    refine' My.all_mk KX G hmg ?a1 ?l1 ?c1 ?k1 ?a2 ?l2 ?c2 ?k2 ?a3 ?l3 ?c3 ?k3 ?a4 ?l4 ?c4 ?k4 ?a5 ?l5 ?c5 ?k5 ?a6 ?l6 ?c6 ?k6 ?a7 ?l7 ?c7 ?k7 ?a8 ?l8 ?c8 ?k8 ?a9 ?l9 ?c9 ?k9 ?a10 ?l10 ?c10 ?k10 ?a11 ?l11 ?c11 ?k11 ?a12 ?l12 ?c12 ?k12 ?z_isinstance ?z_int ?z_bool ?z_str ?z_tuple ?z_list ?z_len ?z_zip ?z_enumerate ?z_range ?z_sorted ?z_dict ?z_any ?z_repr
    (case a1 => k_is); (case l1 => k_is); (case c1 => k_is); (case k1 => k_is); (case a2 => k_is); (case l2 => k_is)
    (case c2 => k_is); (case k2 => k_is); (case a3 => k_is); (case l3 => k_is); (case c3 => k_is); (case k3 => k_is)
    (case a4 => k_is); (case l4 => k_is); (case c4 => k_is); (case k4 => k_is); (case a5 => k_is); (case l5 => k_is)
    (case c5 => k_is); (case k5 => k_is); (case a6 => k_is); (case l6 => k_is); (case c6 => k_is); (case k6 => k_is)
    (case a7 => k_is); (case l7 => k_is); (case c7 => k_is); (case k7 => k_is); (case a8 => k_is); (case l8 => k_is)
    (case c8 => k_is); (case k8 => k_is); (case a9 => k_is); (case l9 => k_is); (case c9 => k_is); (case k9 => k_is)
    (case a10 => k_is); (case l10 => k_is); (case c10 => k_is); (case k10 => k_is); (case a11 => k_is); (case l11 => k_is)
    (case c11 => k_is); (case k11 => k_is); (case a12 => k_is); (case l12 => k_is); (case c12 => k_is); (case k12 => k_is)
    (case z_isinstance => k_is); (case z_int => k_is); (case z_bool => k_is); (case z_str => k_is); (case z_tuple => k_is); (case z_list => k_is)
    (case z_len => k_is); (case z_zip => k_is); (case z_enumerate => k_is); (case z_range => k_is); (case z_sorted => k_is); (case z_dict => k_is)
    (case z_any => k_is); (case z_repr => k_is)
