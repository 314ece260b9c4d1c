import PyProof.Rows.All
import Wide.All
import OpenK.AllK
import Wide.FinOn
import HandS.ForMost
import HandS.Wide
import HandS.Gcd
import HandS.IsInst
import HandS.TupAny
import HandS.SortInts
import HandS.Style
import HandS.Codes
import HandS.Walk
import HandS.RaiseMore
import HandS.TupMul
import HandS.WideBits
import HandS.Zip
import KE.KSortTupUse
import KE.KDictCopyH
import HandS.More
import KE.KDictPairs
import KE.KDictKeyed
import HandS.TupLen
import KE.KDictWalk
import PyProof.DictTable
import HandS.Conv
import HandS.TupLe
import HandS.ListItems
import HandS.WordsDict
import PySem.Challenge.RW_dustwithin_k03_books_of_anything
set_option Elab.async false
set_option maxRecDepth 100000
namespace My
open PySem PySem.Spec PyProof.Rows L2

/-! ### sorted(t), t a tuple of ints -/
section
variable {prog : Program} {w : World} {A : Around} {E : Value → Shared → Prop} {s : Shared}
theorem gather_tup {t : Addr} {us : List Value} {Q : List Value → Shared → Prop} (ht : IsTup s.heap t us.toArray) (hz : us.length ≤ sizeLine)
    (q : Q us { s with heap := (s.heap.push (seqObj "list" #[] 0)).update s.heap.objs.size (Obj.mapSeq (· ++ us.toArray)) }) : wpAny (model prog w) A (collect (.ref t)) Q E s := by
  obtain ⟨ob, hob, hcl, m, hdat⟩ := ht
  unfold collect
  refine wpAny_bind (wpAny_runValue (codeAny_builtin entry_proto_collect' ?_))
  show wpAny _ _ (do again (.builtin "list.__iadd__" ⟨[← newList [], .ref t], []⟩)) _ _ s
  refine wpAny_bind (wpAny_newList (wpAny_pure ⟨Code.quiet_builtin _ (by decide +kernel), codeAny_builtin entry_list_iadd' ?_⟩))
  show wpAny _ _ (Builtin.List.listExtendWith (.ref s.heap.objs.size) (.ref t) (.ref s.heap.objs.size)) _ _ { s with heap := s.heap.push (seqObj "list" #[] 0) }
  unfold Builtin.List.listExtendWith
  have hob1 : (s.heap.push (seqObj "list" #[] 0)).get? t = some ob := Heap.get?_push_of_some _ hob
  have e2 : (Value.type "tuple" == Value.type "tuple") = true := by rfl
  refine wpAny_bind (wpAny_typeOf (T := "tuple") ⟨ob, hob1, hcl⟩ ?_); rw [if_pos (by rw [e2]; simp)]
  refine wpAny_bind (listItems_at hob1 hdat ?_); refine wpAny_bind (listItems_at (n := 0) (xs := #[]) (Heap.get?_push_size _ rfl) rfl ?_); rw [if_neg (by simp)]
  refine wpAny_bind (listUpdate_at (n := 0) (xs := #[]) (Heap.get?_push_size _ rfl) rfl ?_ (Nat.zero_le _) (by show (#[] ++ us.toArray).size ≤ sizeLine + 1; simp only [Array.size_append, List.size_toArray, List.length_nil]; omega))
  refine wpAny_pure ?_; show wpAny (model prog w) A (do
      let ob ← load s.heap.objs.size
      match ob.data with
      | .seq xs _ => pure xs.toList
      | _ => unsupported "internal:collect") Q E { s with heap := (s.heap.push (seqObj "list" #[] 0)).update s.heap.objs.size (Obj.mapSeq (· ++ us.toArray)) }
  refine wpAny_bind (wpAny_load (get?_update_seq (Heap.get?_push_size _ rfl) _) ?_)
  show wpAny _ _ (pure ((#[] : Array Value) ++ us.toArray).toList) Q E _
  rw [show ((#[] : Array Value) ++ us.toArray).toList = us by simp]; exact wpAny_pure q
theorem sorted_tup {t : Addr} {us : List Value} {ms : List Int} {Q : Value → Shared → Prop} (ht : IsTup s.heap t us.toArray) (hI : IntsAre us ms) (h64 : us.length < 64)
    (q : ∀ (out : Array Value) (ms' : List Int), IntsAre out.toList ms' → ms'.Perm ms → ms'.Pairwise (· ≤ ·) → Q (.ref (s.heap.objs.size + 1)) { s with heap := sortedAll s.heap us out }) :
    wpAny (model prog w) A (call (.builtin "sorted") [.ref t]) Q E s := by
  refine Calls.call_function_entry kind_sorted plain_sorted entry_sorted (args_sorted1 _) ?_; unfold Builtin.«sorted»
  refine wpAny_bind (m := checkCount "sorted" 1 1 _) (wpAny_pure ?_)
  refine wpAny_bind (gather_tup ht (small64 h64) ?_); refine wpAny_bind (wpAny_newList ?_ (small64 h64))
  have k1 : ((s.heap.push (seqObj "list" #[] 0)).update s.heap.objs.size (Obj.mapSeq (· ++ us.toArray))).objs.size = s.heap.objs.size + 1 := by rw [Heap.size_update, size_push']
  have k2 : (((s.heap.push (seqObj "list" #[] 0)).update s.heap.objs.size (Obj.mapSeq (· ++ us.toArray))).push (seqObj "list" us.toArray 0)).get? (s.heap.objs.size + 1) = some (seqObj "list" us.toArray 0) := by rw [← k1]; exact Heap.get?_push_size _ rfl
  show wpAny _ _ _ _ _ { s with heap := ((s.heap.push (seqObj "list" #[] 0)).update s.heap.objs.size (Obj.mapSeq (· ++ us.toArray))).push (seqObj "list" us.toArray 0) }
  rw [k1]
  refine wpAny_bind (wpAny_holding (wpAny_call_entry slot_list_sort ⟨_, k2, rfl⟩ entry_list_sort (list_sort_tree k2 hI h64 fun out ms' a1 a2 a3 => ⟨_, rfl, ?_⟩) (args_list_sort _)))
  exact wpAny_pure ⟨_, rfl, q out ms' a1 a2 a3⟩
end
section
variable {X : Cx}
theorem cr_sortedTup : CallR X (.builtin "sorted") (fun vs H Q => ∃ (a : Addr) (ms : List Int), vs = [V.ref a] ∧ SqT X.K H a (ms.map V.int) ∧ ms.length < 64 ∧
    ∀ (ms' : List Int) (p : Addr), ms'.Perm ms → ms'.Pairwise (· ≤ ·) → H p = none → Q (.ref p) (upd H p (.lst (ms'.map V.int)))) := by
  intro pins s σ H vs us Q I r h
  obtain ⟨a, ms, rfl, hs, h64, q⟩ := h
  obtain ⟨its, rv, hl, _⟩ := I.tuple hs
  rw [Vals.ref1 r]
  have hi := rv.ints
  refine sorted_tup hl hi (by rw [hi.length]; exact h64) fun out ms' h1 h2 h3 => ?_
  obtain ⟨ep, he⟩ := PyProof.Rows.sortedAll_at s.heap its out
  have hlen : (ms'.map V.int).length ≤ sizeLine := by rw [List.length_map, h2.length_eq]; exact small64 h64
  exact ⟨.ref _, upd H (s.heap.objs.size + 1) (.lst (ms'.map V.int)), I.laid (t' := s.toks) (fun _ _ => sortedAll_old) (Nat.le_succ _) ⟨hlen, out.toList, ep, vals_of_ints h1, he⟩, rfl, q ms' _ h2 h3 (I.hok.fresh (Nat.le_succ _))⟩
end

/-! ### data that stands still: G is a part of the heap that nothing writes -/
mutual
inductive Dq (K : PySem.W.Frag) (G : Hp) : V → PyData → Prop
  | non : Dq K G .non .none
  | bl (b : Bool) : Dq K G (.bl b) (.bool b)
  | int (i : Int) : Dq K G (.int i) (.int i)
  | str (x : Str) : Dq K G (.str x) (.str x)
  | lst {a : Addr} {xs : List V} {ds : List PyData} : G a = some (.lst xs) → DqAll K G xs ds → Dq K G (.ref a) (.list ds)
  | tup {a : Addr} {xs : List V} {ds : List PyData} : G a = some (.tup xs) → DqAll K G xs ds → Dq K G (.ref a) (.tuple ds)
  | dct {a : Addr} {kvs : List (Key × V)} {ds : List (PyData × PyData)} : G a = some (.dK kvs) → DqAll K G (kvs.map fun kv => kV kv.1) (ds.map (·.1)) → DqAll K G (kvs.map (·.2)) (ds.map (·.2)) → Dq K G (.ref a) (.dict ds)
inductive DqAll (K : PySem.W.Frag) (G : Hp) : List V → List PyData → Prop
  | nil : DqAll K G [] []
  | cons {v : V} {vs : List V} {d : PyData} {ds : List PyData} : Dq K G v d → DqAll K G vs ds → DqAll K G (v :: vs) (d :: ds)
end
section
variable {K : PySem.W.Frag} {G G' H : Hp}
mutual
theorem Dq.mono (e : Same G G') : ∀ {v : V} {d : PyData}, Dq K G v d → Dq K G' v d
  | _, _, .non => .non
  | _, _, .bl b => .bl b
  | _, _, .int i => .int i
  | _, _, .str x => .str x
  | _, _, .lst h t => .lst (e _ _ h) (DqAll.mono e t)
  | _, _, .tup h t => .tup (e _ _ h) (DqAll.mono e t)
  | _, _, .dct h t u => .dct (e _ _ h) (DqAll.mono e t) (DqAll.mono e u)
theorem DqAll.mono (e : Same G G') : ∀ {vs : List V} {ds : List PyData}, DqAll K G vs ds → DqAll K G' vs ds
  | _, _, .nil => .nil
  | _, _, .cons h t => .cons (Dq.mono e h) (DqAll.mono e t)
end
theorem DqAll.append : ∀ {vs ws : List V} {ds es : List PyData}, DqAll K G vs ds → DqAll K G ws es → DqAll K G (vs ++ ws) (ds ++ es)
  | _, _, _, _, .nil, t => t
  | _, _, _, _, .cons h r, t => .cons h (DqAll.append r t)
theorem DqAll.get : ∀ {vs : List V} {ds : List PyData} {i : Nat} {v : V}, DqAll K G vs ds → vs[i]? = some v → ∃ d, ds[i]? = some d ∧ Dq K G v d
  | _, _, _, _, .nil, e => by simp at e
  | _, _, 0, _, .cons h _, e => by simp at e; subst e; exact ⟨_, rfl, h⟩
  | _, _, i + 1, v, .cons _ t, e => by
    obtain ⟨d, h1, h2⟩ := DqAll.get (i := i) (v := v) t (by simpa using e)
    exact ⟨d, by simpa using h1, h2⟩
theorem DqAll.len : ∀ {vs : List V} {ds : List PyData}, DqAll K G vs ds → vs.length = ds.length
  | _, _, .nil => rfl
  | _, _, .cons _ t => by rw [List.length_cons, List.length_cons, DqAll.len t]
theorem DqAll.drop : ∀ {vs : List V} {ds : List PyData} (n : Nat), DqAll K G vs ds → DqAll K G (vs.drop n) (ds.drop n)
  | _, _, 0, h => h
  | _, _, _ + 1, .nil => .nil
  | _, _, n + 1, .cons _ t => DqAll.drop n t
theorem DqAll.take : ∀ {vs : List V} {ds : List PyData} (n : Nat), DqAll K G vs ds → DqAll K G (vs.take n) (ds.take n)
  | _, _, 0, _ => .nil
  | _, _, _ + 1, .nil => .nil
  | _, _, n + 1, .cons h t => .cons h (DqAll.take n t)
theorem DqAll.rev : ∀ {vs : List V} {ds : List PyData}, DqAll K G vs ds → DqAll K G vs.reverse ds.reverse
  | _, _, .nil => .nil
  | _, _, .cons h t => by
    rw [List.reverse_cons, List.reverse_cons]
    exact DqAll.append (DqAll.rev t) (.cons h .nil)
theorem dq_ints (K : PySem.W.Frag) (G : Hp) : ∀ ns : List Int, DqAll K G (ns.map V.int) (ns.map PyData.int)
  | [] => .nil
  | n :: r => .cons (.int n) (dq_ints K G r)
end
mutual
def hasList : PyData → Bool
  | .list _ => true
  | .tuple xs => hasListAll xs
  | .dict kvs => hasListKv kvs
  | _ => false
def hasListAll : List PyData → Bool
  | [] => false
  | x :: xs => hasList x || hasListAll xs
def hasListKv : List (PyData × PyData) → Bool
  | [] => false
  | (k, v) :: r => hasList k || hasList v || hasListKv r
end
theorem hasListKv_split : ∀ kvs : List (PyData × PyData), hasListKv kvs = false → hasListAll (kvs.map (·.1)) = false ∧ hasListAll (kvs.map (·.2)) = false
  | [], _ => ⟨rfl, rfl⟩
  | (k, v) :: r, h => by
    simp only [hasListKv, Bool.or_eq_false_iff] at h
    obtain ⟨a, b⟩ := hasListKv_split r h.2
    simp only [List.map_cons, hasListAll, Bool.or_eq_false_iff]
    exact ⟨⟨h.1.1, a⟩, h.1.2, b⟩
section
variable {X : Cx} {pins : List (Addr × Obj)} {σ : L2.St} {H : Hp} {s : Shared}
theorem kv_keys {P : Program} {w : World} : ∀ {kvs : List (Key × V)} {vs : List (Key × Value)} {es : List DictEntry}, KV kvs vs → Pairs (mixKind P w) es vs → Vals (kvs.map fun kv => kV kv.1) (es.map (·.key)) ∧ Vals (kvs.map (·.2)) (es.map (·.val))
  | _, _, _, .nil, .nil => ⟨.nil, .nil⟩
  | (k, v) :: _, (k', v') :: _, _ :: _, .cons ⟨h1, h2⟩ t, .cons g1 g2 g3 => by
    obtain ⟨a, b⟩ := kv_keys t g3
    refine ⟨.cons ?_ a, .cons ?_ b⟩
    · have e : k = k' := h1
      subst e
      rcases keyIs_shape (show keyIs k _ = true from g1) with ⟨i, tk, rfl, e2⟩ | ⟨x, tk, rfl, e2⟩
      · exact ⟨tk, e2⟩
      · exact ⟨tk, e2⟩
    · have e2 : (_ : DictEntry).val = v' := g2
      show RelV v (DictEntry.val _)
      rw [e2]; exact h2
mutual
theorem Dq.reads (I : Inv X pins σ H s) : ∀ (d : PyData) (v : V) (u : Value), Dq X.K H v d → RelV v u → ∃ as, Reads s.heap u d as ∧ (hasList d = false → sysModules ∉ as)
  | .none, _, _, h, r => by cases h; cases r; exact ⟨_, Reads.none, fun _ z => nomatch z⟩
  | .bool b, _, _, h, r => by cases h; cases r; exact ⟨_, Reads.bool b, fun _ z => nomatch z⟩
  | .int i, _, _, h, r => by cases h; obtain ⟨t, rfl⟩ := r; exact ⟨_, Reads.int i t, fun _ z => nomatch z⟩
  | .str x, _, _, h, r => by cases h; obtain ⟨t, rfl⟩ := r; exact ⟨_, Reads.str x t, fun _ z => nomatch z⟩
  | .list ds, _, _, h, r => by
    cases h with
    | lst hs ha =>
      cases r
      obtain ⟨_, its, n, rv, ho⟩ := I.hok _ _ hs
      obtain ⟨as, hr, _⟩ := DqAll.reads I ds _ its ha rv
      exact ⟨_, Reads.list ho rfl rfl (by simpa using hr), fun z => nomatch z⟩
  | .tuple ds, _, _, h, r => by
    cases h with
    | tup hs ha =>
      cases r
      obtain ⟨_, its, rv, o, ho, hc, n, hd⟩ := I.hok _ _ hs
      obtain ⟨as, hr, hn⟩ := DqAll.reads I ds _ its ha rv
      exact ⟨_, Reads.tuple ho hc hd (by simpa using hr), fun z => hn (by simpa only [hasList] using z)⟩
  | .dict ds, _, _, h, r => by
    cases h with
    | dct hs hk hv =>
      rename_i a kvs
      cases r
      obtain ⟨_, hm, vs, rel, o, es, ep, ho, hx, hd, _, hp, _⟩ := I.hok _ _ hs
      obtain ⟨r1, r2⟩ := kv_keys rel hp
      obtain ⟨as, q1, n1⟩ := DqAll.readsK I ds _ _ hk r1
      obtain ⟨bs, q2, n2⟩ := DqAll.readsV I ds _ _ hv r2
      refine ⟨_, Reads.dict ho hx.1 hd q1 q2, fun z => ?_⟩
      obtain ⟨z1, z2⟩ := hasListKv_split ds (by simpa only [hasList] using z)
      intro hmem
      rcases List.mem_append.mp hmem with hmem | hmem
      · rcases List.mem_cons.mp hmem with e | e
        · rw [← e] at hm; simp at hm
        · exact n1 z1 e
      · exact n2 z2 hmem
theorem DqAll.reads (I : Inv X pins σ H s) : ∀ (ds : List PyData) (vs : List V) (us : List Value), DqAll X.K H vs ds → Vals vs us → ∃ as, ReadsAll s.heap us ds as ∧ (hasListAll ds = false → sysModules ∉ as)
  | [], _, _, h, r => by cases h; cases r; exact ⟨_, ReadsAll.nil, fun _ z => nomatch z⟩
  | d :: ds, _, _, h, r => by
    cases h with
    | cons h1 h2 =>
      cases r with
      | cons r1 r2 =>
        obtain ⟨as, q1, n1⟩ := Dq.reads I d _ _ h1 r1
        obtain ⟨bs, q2, n2⟩ := DqAll.reads I ds _ _ h2 r2
        refine ⟨_, ReadsAll.cons q1 q2, fun z hm => ?_⟩
        simp only [hasListAll, Bool.or_eq_false_iff] at z
        rcases List.mem_append.mp hm with e | e
        · exact n1 z.1 e
        · exact n2 z.2 e
theorem DqAll.readsK (I : Inv X pins σ H s) : ∀ (ds : List (PyData × PyData)) (vs : List V) (us : List Value), DqAll X.K H vs (ds.map (·.1)) → Vals vs us → ∃ as, ReadsAll s.heap us (ds.map (·.1)) as ∧ (hasListAll (ds.map (·.1)) = false → sysModules ∉ as)
  | [], _, _, h, r => by cases h; cases r; exact ⟨_, ReadsAll.nil, fun _ z => nomatch z⟩
  | (d, d') :: ds, _, _, h, r => by
    cases h with
    | cons h1 h2 =>
      cases r with
      | cons r1 r2 =>
        obtain ⟨as, q1, n1⟩ := Dq.reads I d _ _ h1 r1
        obtain ⟨bs, q2, n2⟩ := DqAll.readsK I ds _ _ h2 r2
        refine ⟨_, ReadsAll.cons q1 q2, fun z hm => ?_⟩
        simp only [List.map_cons, hasListAll, Bool.or_eq_false_iff] at z
        rcases List.mem_append.mp hm with e | e
        · exact n1 z.1 e
        · exact n2 z.2 e
theorem DqAll.readsV (I : Inv X pins σ H s) : ∀ (ds : List (PyData × PyData)) (vs : List V) (us : List Value), DqAll X.K H vs (ds.map (·.2)) → Vals vs us → ∃ as, ReadsAll s.heap us (ds.map (·.2)) as ∧ (hasListAll (ds.map (·.2)) = false → sysModules ∉ as)
  | [], _, _, h, r => by cases h; cases r; exact ⟨_, ReadsAll.nil, fun _ z => nomatch z⟩
  | (d, d') :: ds, _, _, h, r => by
    cases h with
    | cons h1 h2 =>
      cases r with
      | cons r1 r2 =>
        obtain ⟨as, q1, n1⟩ := Dq.reads I d' _ _ h1 r1
        obtain ⟨bs, q2, n2⟩ := DqAll.readsV I ds _ _ h2 r2
        refine ⟨_, ReadsAll.cons q1 q2, fun z hm => ?_⟩
        simp only [List.map_cons, hasListAll, Bool.or_eq_false_iff] at z
        rcases List.mem_append.mp hm with e | e
        · exact n1 z.1 e
        · exact n2 z.2 e
end
end
end My

namespace My
open PySem PySem.Spec PyProof.Rows L2
def topS (i : Nat) : Stmt := PySem.Challenge.pw_dustwithin_k03_books_of_anything.main.body.getD i (.Pass ⟨0, 0, 0, 0⟩)
abbrev sSpread : Stmt := topS 11
abbrev sOpen : Stmt := topS 12
abbrev sTake : Stmt := topS 13
/-! ### the pen -/
structure PenAt (H : Hp) (p : Addr) (t : Nat) : Prop where
  ex : ∃ (c : Addr) (cells : List Int) (at' rest : Int), H p = some (.lst [.ref c, .int at', .int rest]) ∧ H c = some (.lst (cells.map V.int)) ∧ 0 ≤ at' ∧ at' ≤ (t : Int)
theorem ne_len {H : Hp} {p c : Addr} {xs ys : List V} (h : H p = some (.lst xs)) (g : H c = some (.lst ys)) (e : xs ≠ ys) : c ≠ p := by
  intro z; subst z; rw [h] at g; cases g; exact e rfl
theorem pen_ne {H : Hp} {p c : Addr} {x : Addr} {i j : Int} {cells : List Int} (h : H p = some (.lst [.ref x, .int i, .int j])) (g : H c = some (.lst (cells.map V.int))) : c ≠ p :=
  ne_len h g (by intro z; cases cells with | nil => cases z | cons a r => cases z)
def But (p : Addr) (H H' : Hp) : Prop := ∀ b o, b ≠ p → H b = some o → H' b = some o
theorem But.of {p : Addr} {H H' : Hp} (e : Same H H') : But p H H' := fun b o _ => e b o
theorem But.trans {p : Addr} {H H1 H2 : Hp} (a : But p H H1) (b : But p H1 H2) : But p H H2 := fun c o n h => b c o n (a c o n h)
theorem But.upd {p : Addr} {H : Hp} {o : HO} : But p H (upd H p o) := fun b u n h => by rw [upd_ne n]; exact h
theorem PenAt.same {H H' : Hp} {p : Addr} {t u : Nat} (e : Same H H') (h : t ≤ u) (P : PenAt H p t) : PenAt H' p u := by
  obtain ⟨c, cells, x, y, h1, h2, h3, h4⟩ := P.ex
  exact ⟨c, cells, x, y, e _ _ h1, e _ _ h2, h3, by omega⟩
theorem Same.upd {H : Hp} {p : Addr} {o : HO} (n : H p = none) : Same H (upd H p o) := fun b u h => by rw [upd_ne (ne_of_none h n)]; exact h
structure PenC (H : Hp) (p c : Addr) (t : Nat) : Prop where
  ex : ∃ (cells : List Int) (at' rest : Int), H p = some (.lst [.ref c, .int at', .int rest]) ∧ H c = some (.lst (cells.map V.int)) ∧ 0 ≤ at' ∧ at' ≤ (t : Int)
theorem PenC.any {H : Hp} {p c : Addr} {t : Nat} (h : PenC H p c t) : PenAt H p t := by
  obtain ⟨cells, x, y, h⟩ := h.ex
  exact ⟨c, cells, x, y, h⟩
theorem PenAt.c {H : Hp} {p : Addr} {t : Nat} (h : PenAt H p t) : ∃ c, PenC H p c t := by
  obtain ⟨c, cells, x, y, h⟩ := h.ex
  exact ⟨c, cells, x, y, h⟩
theorem PenC.same {H H' : Hp} {p c : Addr} {t u : Nat} (e : Same H H') (h : t ≤ u) (P : PenC H p c t) : PenC H' p c u := by
  obtain ⟨cells, x, y, h1, h2, h3, h4⟩ := P.ex
  exact ⟨cells, x, y, e _ _ h1, e _ _ h2, h3, by omega⟩
theorem PenC.at_c {H : Hp} {p c : Addr} {t : Nat} (h : PenC H p c t) : H c ≠ none := by
  obtain ⟨cells, x, y, h1, h2, _⟩ := h.ex
  rw [h2]; exact fun z => nomatch z
theorem PenC.upd {H : Hp} {p c : Addr} {t u : Nat} (P : PenC H p c t) {q : Addr} (h1 : q ≠ p) (h2 : q ≠ c) (h : t ≤ u) (o : HO) : PenC (upd H q o) p c u := by
  obtain ⟨cells, x, y, g1, g2, g3, g4⟩ := P.ex
  exact ⟨cells, x, y, by rw [upd_ne h1.symm]; exact g1, by rw [upd_ne h2.symm]; exact g2, g3, by omega⟩
/-! ### promises -/
def spSpread : Sp := fun vs H Q _ => ∃ (c a : Int), vs = [.int c, .int a] ∧ 0 ≤ a ∧ a < 2 ^ 30 ∧ ∀ (r : Int) (H' : Hp), Same H H' → Q (.int r) H'
def spOpen (K : PySem.W.Frag) : Sp := fun vs H Q _ => ∃ (a : Addr) (ns : List Int), vs = [.ref a] ∧ SqL K H a (ns.map V.int) ∧ ns.length ≤ 63 ∧ ∀ (p : Addr) (H' : Hp), H p = none → Same H H' → PenAt H' p 0 → Q (.ref p) H'
def spTake : Sp := fun vs H Q _ => ∃ (p : Addr) (n : Int) (t : Nat), vs = [.ref p, .int n] ∧ 0 < n ∧ n.natAbs < 2 ^ 8000 ∧ PenAt H p t ∧ t < 2 ^ 29 ∧ ∀ (m : Int) (H' : Hp), 0 ≤ m → m < n → But p H H' → PenAt H' p (t + 1) → Q (.int m) H'
def spTakeC : Sp := fun vs H Q _ => ∃ (p c : Addr) (n : Int) (t : Nat), vs = [.ref p, .int n] ∧ 0 < n ∧ n.natAbs < 2 ^ 8000 ∧ PenC H p c t ∧ t < 2 ^ 29 ∧ ∀ (m : Int) (H' : Hp), 0 ≤ m → m < n → But p H H' → PenC H' p c (t + 1) → Q (.int m) H'
section
variable {P : Program} {w : World} {K : PySem.W.Frag} {mg : Str → Option Value} {base : Heap}
def primesV : List V := [.int 2147483629, .int 2147483587, .int 2147483579, .int 2147483563, .int 2147483549, .int 2147483543, .int 2147483497, .int 2147483489] ++ [.int 2147483477, .int 2147483423, .int 2147483399, .int 2147483353, .int 2147483323]
theorem prime_at {j : Int} (h0 : 0 ≤ j) (h1 : j < 13) : ∃ q : Int, atI primesV j = some (.int q) ∧ 0 < q ∧ q < 2147483648 := by
  have h : j = 0 ∨ j = 1 ∨ j = 2 ∨ j = 3 ∨ j = 4 ∨ j = 5 ∨ j = 6 ∨ j = 7 ∨ j = 8 ∨ j = 9 ∨ j = 10 ∨ j = 11 ∨ j = 12 := by omega
  rcases h with rfl | rfl | rfl | rfl | rfl | rfl | rfl | rfl | rfl | rfl | rfl | rfl | rfl <;> exact ⟨_, rfl, by decide, by decide⟩
theorem mod_at {x : Int} : 0 ≤ x % 13 ∧ x % 13 < 13 := ⟨Int.emod_nonneg _ (by decide), Int.emod_lt_of_pos _ (by decide)⟩
theorem mod_lt {x q : Int} (h : 0 < q) (h2 : q < 2147483648) : 0 ≤ x % q ∧ x % q < 2147483648 := ⟨Int.emod_nonneg _ (by omega), by have := Int.emod_lt_of_pos x h; omega⟩
theorem scSpread : FnScope ["cell", "at", "primes", "one", "two", "three"] ["cell", "at"] (defScope sSpread) := ⟨rfl, rfl, rfl, by decide +kernel, rfl, by decide +kernel, by decide +kernel⟩
theorem pow_ok {i : Int} {j : Int} (hj : j = 3 ∨ j = 5) (h0 : 0 ≤ i) (h1 : i < 2 ^ 64) : CPow i j := by
  refine ⟨by omega, by omega, ?_⟩
  omega
theorem ok_spread {f : Addr} {fd : FuncData} (F : Fun K "_law_spread" "_law_spread" sSpread f fd) : FnOk P w K mg base CX0 1 f fd ["cell", "at"] spSpread := by
  refine F.ok scSpread (fun vs H Q E h => ?_) (fun cdv A outer s H vs Q E hr h => ?_)
  · obtain ⟨c, a, rfl, _⟩ := h
    rfl
  · obtain ⟨c, a, rfl, ha0, ha1, k⟩ := h
    refine ⟨_, pss_cons (ps_if (pt_cmpR op_ge (pv 0) (pe_op op_pow pe_int pe_int) (nomark _)) (pss_one (ps_ret (pv 0))) pss_nil)
      (pss_cons (ps_set (i := 2) scSpread.nd rfl (Or.inl rfl) (pe_lst (pa_cons pe_int (pa_cons pe_int (pa_cons pe_int (pa_cons pe_int (pa_cons pe_int (pa_cons pe_int (pa_cons pe_int (pa_cons pe_int pa_nil))))))))))
      (pss_cons (ps_set (i := 2) scSpread.nd rfl (Or.inl rfl) (pe_op op_cat (pv 2) (pe_lst (pa_cons pe_int (pa_cons pe_int (pa_cons pe_int (pa_cons pe_int (pa_cons pe_int pa_nil))))))))
      (pss_cons (ps_set (i := 3) scSpread.nd rfl (Or.inl rfl) (pe_op op_mod (pe_op op_pow (pe_op op_add (pe_op op_add (pe_op op_mul (pe_op op_mod (pv 0) pe_int) (pe_op op_add (pe_op op_mul pe_int (pv 1)) pe_int)) (pe_op op_mul (pv 1) pe_int)) pe_int) pe_int)
        (pe_ix ix_list (pv 2) (pe_op op_mod (pv 1) pe_int) (fun _ _ => rfl))))
      (pss_cons (ps_set (i := 4) scSpread.nd rfl (Or.inl rfl) (pe_op op_mod (pe_op op_pow (pe_op op_add (pe_op op_add (pe_op op_mul (pv 3) (pe_op op_add (pv 1) pe_int)) (pe_op op_mod (pv 0) pe_int)) pe_int) pe_int)
        (pe_ix ix_list (pv 2) (pe_op op_mod (pe_op op_add (pv 1) pe_int) pe_int) (fun _ _ => rfl))))
      (pss_cons (ps_set (i := 5) scSpread.nd rfl (Or.inl rfl) (pe_op op_mod (pe_op op_pow (pe_op op_add (pe_op op_add (pv 4) (pe_op op_mod (pv 3) pe_int)) (pv 1)) pe_int)
        (pe_ix ix_list (pv 2) (pe_op op_mod (pe_op op_add (pv 1) pe_int) pe_int) (fun _ _ => rfl))))
      (pss_one (ps_ret (pe_op op_add (pe_op op_mul (pe_op op_add (pe_op op_mul (pv 3) pe_int) (pv 4)) pe_int) (pv 5))))))))), ?_⟩
    refine ⟨_, rfl, _, _, rfl, rfl, ⟨by decide, by decide, by decide⟩, _, _, rfl, rfl, _, rfl, ite2 (fun _ => ⟨_, rfl, k _ _ (Same.refl H)⟩) (fun _ => ?_)⟩
    -- primes
    refine ⟨by decide, fun l1 n1 => ?_⟩
    refine ⟨_, rfl, by decide, fun l2 n2 => ?_⟩
    have l21 : l1 ≠ l2 := ne_of_none upd_same n2
    refine ⟨l1, l2, _, _, rfl, rfl, (by rw [upd_ne l21]; exact upd_same), upd_same, by decide, fun l3 n3 => ?_⟩
    -- one
    have c0 := Int.emod_nonneg c (show (1000000007 : Int) ≠ 0 by decide)
    have c1 := Int.emod_lt_of_pos c (show (0 : Int) < 1000000007 by decide)
    have b0 : 0 ≤ c % 1000000007 * (2 * a + 69069) := Int.mul_nonneg c0 (by omega)
    have b1 : c % 1000000007 * (2 * a + 69069) ≤ 1000000007 * (2 * 1073741824 + 69069) := Int.mul_le_mul (by omega) (by omega) (by omega) (by decide)
    obtain ⟨q1, a1, q10, q11⟩ := prime_at (mod_at (x := a)).1 mod_at.2
    refine ⟨_, rfl, _, _, rfl, rfl, (by show (0 : Int) < 1000000007; decide), _, rfl, _, _, rfl, rfl, .inl ⟨by decide, by decide⟩, _, _, rfl, rfl, _, _, rfl, rfl, .inl ⟨by omega, by omega⟩, _, rfl, _, _, rfl, rfl, .inl ⟨by omega, by omega⟩, _, _, rfl, rfl, _, _, rfl, rfl,
      _, _, rfl, rfl, pow_ok (.inl rfl) (by omega) (by omega), _, rfl, _, rfl, _, _, rfl, rfl, (by show (0 : Int) < 13; decide), l3, primesV, _, _, rfl, rfl, SqL.of upd_same, a1, _, _, rfl, rfl, q10, ?_⟩
    dsimp only
    generalize hz : (c % 1000000007 * (2 * a + 69069) + a * 40503 + 977) ^ (3 : Int).toNat % q1 = one
    have o1 := hz ▸ mod_lt (x := (c % 1000000007 * (2 * a + 69069) + a * 40503 + 977) ^ (3 : Int).toNat) q10 q11
    -- two
    obtain ⟨q2, a2, q20, q21⟩ := prime_at (mod_at (x := a + 5)).1 mod_at.2
    have d0 := Int.emod_nonneg c (show (65537 : Int) ≠ 0 by decide)
    have d1 := Int.emod_lt_of_pos c (show (0 : Int) < 65537 by decide)
    have e0 : 0 ≤ one * (a + 3) := Int.mul_nonneg o1.1 (by omega)
    have e1 : one * (a + 3) ≤ 2147483648 * (1073741824 + 3) := Int.mul_le_mul (by omega) (by omega) (by omega) (by decide)
    refine ⟨_, rfl, _, rfl, _, _, rfl, rfl, _, _, rfl, rfl, .inl ⟨by omega, by omega⟩, _, rfl, _, _, rfl, rfl, (by show (0 : Int) < 65537; decide), _, _, rfl, rfl, _, _, rfl, rfl,
      _, _, rfl, rfl, pow_ok (.inr rfl) (by omega) (by omega), _, rfl, _, rfl, _, _, rfl, rfl, _, _, rfl, rfl, (by show (0 : Int) < 13; decide), l3, primesV, _, _, rfl, rfl, SqL.of upd_same, a2, _, _, rfl, rfl, q20, ?_⟩
    dsimp only
    generalize hy : (one * (a + 3) + c % 65537 + 5) ^ (5 : Int).toNat % q2 = two
    have o2 := hy ▸ mod_lt (x := (one * (a + 3) + c % 65537 + 5) ^ (5 : Int).toNat) q20 q21
    -- three
    obtain ⟨q3, a3, q30, q31⟩ := prime_at (mod_at (x := a + 7)).1 mod_at.2
    have g0 := Int.emod_nonneg one (show (1009 : Int) ≠ 0 by decide)
    have g1 := Int.emod_lt_of_pos one (show (0 : Int) < 1009 by decide)
    refine ⟨_, rfl, _, rfl, _, _, rfl, rfl, (by show (0 : Int) < 1009; decide), _, _, rfl, rfl, _, rfl, _, _, rfl, rfl,
      _, _, rfl, rfl, pow_ok (.inl rfl) (by omega) (by omega), _, rfl, _, rfl, _, _, rfl, rfl, _, _, rfl, rfl, (by show (0 : Int) < 13; decide), l3, primesV, _, _, rfl, rfl, SqL.of upd_same, a3, _, _, rfl, rfl, q30, ?_⟩
    refine ⟨_, rfl, _, _, rfl, rfl, .inl ⟨by omega, by omega⟩, _, rfl, _, _, rfl, rfl, _, _, rfl, rfl, .inl ⟨by omega, by omega⟩, _, rfl, _, _, rfl, rfl, ?_⟩
    exact k _ _ (((Same.upd n1).trans (Same.upd n2)).trans (Same.upd n3))

theorem scTake : FnScope ["pen", "many", "at", "cell", "found"] ["pen", "many"] (defScope sTake) := ⟨rfl, rfl, rfl, by decide +kernel, rfl, by decide +kernel, by decide +kernel⟩
theorem nat_at {xs : List Int} {i : Int} (h0 : 0 ≤ i) (h1 : i < xs.length) : ∃ v : Int, atI (xs.map V.int) i = some (.int v) := by
  obtain ⟨j, rfl⟩ : ∃ j : Nat, i = (j : Int) := ⟨i.toNat, by omega⟩
  have hj : j < xs.length := by omega
  exact ⟨xs[j], atI_nat (by rw [List.getElem?_map, List.getElem?_eq_getElem hj]; rfl)⟩
theorem mapInt_len (xs : List Int) : ((xs.map V.int).length : Int) = (xs.length : Int) := by rw [List.length_map]
theorem ok_takeC {f fS : Addr} {fd fdS : FuncData} (F : Fun K "_law_take" "_law_take" sTake f fd) (ml : mg "len" = none) (FS : Fun K "_law_spread" "_law_spread" sSpread fS fdS) (bS : Binds K fdS ["cell", "at"] []) (gS : mg "_law_spread" = some (.ref fS)) :
    FnOk P w K mg base CX0 2 f fd ["pen", "many"] spTakeC := by
  have GS : FnOk P w K mg base CX0 1 fS fdS ["cell", "at"] spSpread := ok_spread FS
  refine F.ok scTake (fun vs H Q E h => ?_) (fun cdv A outer s H vs Q E hr h => ?_)
  · obtain ⟨p, c, n, t, rfl, _⟩ := h
    rfl
  · obtain ⟨p, c, n, t, rfl, n0, nb, PA, tb, k⟩ := h
    obtain ⟨cells, a1, r1, hp, hc, a10, a11⟩ := PA.ex
    have ncp : c ≠ p := pen_ne hp hc
    refine ⟨_, C8.pss_cut (ps_if (pt_cmpR op_lt (pe_ix ix_list (pv 0) pe_int (fun _ _ => rfl)) (pv 1) (nomark _))
        (pss_cons (ps_set (i := 2) scTake.nd rfl (Or.inl rfl) (pe_ix ix_list (pv 0) pe_int (fun _ _ => rfl)))
        (pss_cons (ps_set (i := 3) scTake.nd rfl (Or.inl rfl) pe_int)
        (C8.pss_cut (ps_if (pt_cmpR op_lt (pv 2) (pe_callB call_len_seq (by rfl) ml PySem.boot_len (pa_cons (pe_ix ix_list (pv 0) pe_int (fun _ _ => rfl)) pa_nil)) (nomark _))
            (pss_one (ps_set (i := 3) scTake.nd rfl (Or.inl rfl) (pe_ix ix_list (pe_ix ix_list (pv 0) pe_int (fun _ _ => rfl)) (pv 2) (fun _ _ => rfl))))
            (pss_one (ps_if (pt_cmpR op_gt (pe_callB call_len_seq (by rfl) ml PySem.boot_len (pa_cons (pe_ix ix_list (pv 0) pe_int (fun _ _ => rfl)) pa_nil)) pe_int (nomark _))
              (pss_one (ps_set (i := 3) scTake.nd rfl (Or.inl rfl) (pe_op op_mod
                (pe_ix ix_list (pe_ix ix_list (pv 0) pe_int (fun _ _ => rfl)) (pe_op op_mod (pe_op op_add (pe_op op_mul (pv 2) pe_int) pe_int) (pe_callB call_len_seq (by rfl) ml PySem.boot_len (pa_cons (pe_ix ix_list (pv 0) pe_int (fun _ _ => rfl)) pa_nil))) (fun _ _ => rfl))
                (pe_op op_add (pe_op op_pow pe_int pe_int) (pv 2))))) pss_nil)))
        (pss_cons (ps_asg (pe_op op_add (pv 2) pe_int) (pg_sub (pv 0) pe_int set_list))
        (pss_one (ps_asg (pe_call GS hr (by rfl) gS FS.kp bS .nil pass0 (pa_cons (pv 3) (pa_cons (pv 2) pa_nil))) (pg_sub (pv 0) pe_int set_list)))))))
        pss_nil)
      (pss_cons (ps_set (i := 4) scTake.nd rfl (Or.inl rfl) (pe_op op_mod (pe_ix ix_list (pv 0) pe_int (fun _ _ => rfl)) (pv 1)))
      (pss_cons (ps_asg (pe_op op_fdivW (pe_ix ix_list (pv 0) pe_int (fun _ _ => rfl)) (pv 1)) (pg_sub (pv 0) pe_int set_list))
      (pss_one (ps_ret (pv 4))))), ?_⟩
    -- what holds behind the if
    refine ⟨fun σ H2 => ∃ (x2 x3 : Option V) (a2 r2 : Int), σ = [some (.ref p), some (.int n), x2, x3, none] ∧ H2 p = some (.lst [.ref c, .int a2, .int r2]) ∧ H2 c = some (.lst (cells.map V.int)) ∧ 0 ≤ a2 ∧ a2 ≤ (t : Int) + 1 ∧ But p H H2, ?_, ?_⟩
    · refine ⟨_, rfl, p, _, 2, .int r1, rfl, rfl, SqL.of hp, atI_nat (j := 2) rfl, _, rfl, _, _, rfl, rfl, _, rfl, ite2 (fun _ => ?_) (fun _ => ?_)⟩
      · refine ⟨_, rfl, p, _, 1, .int a1, rfl, rfl, SqL.of hp, atI_nat (j := 1) rfl, ?_⟩
        -- at, cell
        refine ⟨fun σ H2 => ∃ z : Int, σ = [some (.ref p), some (.int n), some (.int a1), some (.int z), none] ∧ H2 = H, ?_, ?_⟩
        · refine ⟨_, rfl, _, rfl, p, _, 0, .ref c, rfl, rfl, SqL.of hp, atI_nat (j := 0) rfl, c, _, rfl, .inl (SqL.of hc), _, _, rfl, rfl, _, rfl, ite2 (fun e => ?_) (fun e => ?_)⟩
          · have e1 : a1 < ((cells.map V.int).length : Int) := of_decide_eq_true e
            rw [mapInt_len] at e1
            obtain ⟨v, hv⟩ := nat_at a10 e1
            exact ⟨_, rfl, p, _, 0, .ref c, rfl, rfl, SqL.of hp, atI_nat (j := 0) rfl, _, rfl, c, _, a1, .int v, rfl, rfl, SqL.of hc, hv, v, rfl, rfl⟩
          · refine ⟨_, rfl, p, _, 0, .ref c, rfl, rfl, SqL.of hp, atI_nat (j := 0) rfl, c, _, rfl, .inl (SqL.of hc), _, _, rfl, rfl, _, rfl, ite2 (fun e2 => ?_) (fun e2 => ?_)⟩
            · have e3 : 0 < ((cells.map V.int).length : Int) := of_decide_eq_true e2
              have e4 := e3
              rw [mapInt_len] at e4
              obtain ⟨v, hv⟩ := nat_at (Int.emod_nonneg (a1 * 5 + 3) (by omega : (cells.length : Int) ≠ 0)) (Int.emod_lt_of_pos (a1 * 5 + 3) e4)
              rw [← mapInt_len] at hv
              have h17 : (0 : Int) < 10 ^ (17 : Int).toNat + a1 := by
                have : (0 : Int) < 10 ^ (17 : Int).toNat := by decide
                omega
              exact ⟨_, rfl, p, _, 0, .ref c, rfl, rfl, SqL.of hp, atI_nat (j := 0) rfl, _, rfl, _, _, rfl, rfl, .inl ⟨by omega, by omega⟩, _, _, rfl, rfl, _, rfl, p, _, 0, .ref c, rfl, rfl, SqL.of hp, atI_nat (j := 0) rfl, c, _, rfl, .inl (SqL.of hc), _, _, rfl, rfl, e3,
                c, _, _, .int v, rfl, rfl, SqL.of hc, hv, _, _, rfl, rfl, ⟨by decide, by decide, by decide⟩, _, rfl, _, _, rfl, rfl, _, _, rfl, rfl, h17, _, rfl, rfl⟩
            · exact ⟨0, rfl, rfl⟩
        · rintro σ H2 ⟨z, rfl, rfl⟩
          refine ⟨_, rfl, _, _, rfl, rfl, _, rfl, p, _, _, 1, rfl, rfl, hp, rfl, ?_⟩
          refine ⟨_, rfl, _, rfl, z, a1, rfl, a10, by omega, fun r H3 e3 => ?_⟩
          have hp3 : H3 p = some (.lst [.ref c, .int (a1 + 1), .int r1]) := e3 _ _ upd_same
          refine ⟨_, rfl, p, _, _, 2, rfl, rfl, hp3, rfl, ?_⟩
          refine ⟨_, _, a1 + 1, r, rfl, upd_same, ?_, by omega, by omega, (But.upd.trans (But.of e3)).trans But.upd⟩
          rw [upd_ne ncp]
          exact e3 _ _ (by rw [upd_ne ncp]; exact hc)
      · exact ⟨none, none, a1, r1, rfl, hp, hc, a10, by omega, fun b o _ e => e⟩
    · rintro σ H2 ⟨x2, x3, a2, r2, rfl, hp2, hc2, a20, a21, bt⟩
      refine ⟨_, rfl, p, _, 2, .int r2, rfl, rfl, SqL.of hp2, atI_nat (j := 2) rfl, _, rfl, _, _, rfl, rfl, n0, ?_⟩
      refine ⟨_, rfl, p, _, 2, .int r2, rfl, rfl, SqL.of hp2, atI_nat (j := 2) rfl, _, rfl, _, _, rfl, rfl, wide_div n0 nb (by decide) (by decide), ?_⟩
      refine ⟨_, rfl, p, _, _, 2, rfl, rfl, hp2, rfl, ?_⟩
      exact ⟨_, rfl, k _ _ (Int.emod_nonneg _ (by omega)) (Int.emod_lt_of_pos _ n0) (bt.trans But.upd) ⟨cells, a2, r2 / n, upd_same, by rw [upd_ne ncp]; exact hc2, a20, by omega⟩⟩

theorem ok_take {f fS : Addr} {fd fdS : FuncData} (F : Fun K "_law_take" "_law_take" sTake f fd) (ml : mg "len" = none) (FS : Fun K "_law_spread" "_law_spread" sSpread fS fdS) (bS : Binds K fdS ["cell", "at"] []) (gS : mg "_law_spread" = some (.ref fS)) :
    FnOk P w K mg base CX0 2 f fd ["pen", "many"] spTake := (ok_takeC F ml FS bS gS).imp fun vs H Q E h => by
  obtain ⟨p, n, t, h1, h2, h3, PA, h4, k⟩ := h
  obtain ⟨c, PC⟩ := PA.c
  exact ⟨p, c, n, t, h1, h2, h3, PC, h4, fun m H' a b d e => k m H' a b d e.any⟩
theorem scOpen : FnScope ["script", "cells", "k", "cell"] ["script"] (defScope sOpen) := ⟨rfl, rfl, rfl, by decide +kernel, rfl, by decide +kernel, by decide +kernel⟩
theorem cut_ints (ns : List Int) (lo hi : Option Int) : ∃ ms : List Int, cutV (ns.map V.int) lo hi = ms.map V.int ∧ ms = (ns.drop (HT.sIx ns.length 0 lo)).take (HT.sIx ns.length ns.length hi - HT.sIx ns.length 0 lo) := by
  refine ⟨_, ?_, rfl⟩
  unfold cutV
  rw [List.length_map, List.map_take, List.map_drop]
theorem sIx_nat (n : Nat) (d : Nat) (k : Nat) : HT.sIx n d (some (k : Int)) = min k n := by
  unfold HT.sIx
  simp only
  rw [if_neg (by omega)]
  omega
theorem cut12 (ns : List Int) : ∃ ms : List Int, cutV (ns.map V.int) none (some 12) = ms.map V.int ∧ ms.length = min 12 ns.length := by
  obtain ⟨ms, h1, h2⟩ := cut_ints ns none (some 12)
  refine ⟨ms, h1, ?_⟩
  rw [h2, List.length_take, List.length_drop]
  have a1 : HT.sIx ns.length 0 none = 0 := rfl
  have a2 : HT.sIx ns.length ns.length (some 12) = min 12 ns.length := sIx_nat _ _ 12
  rw [a1, a2]; omega
theorem cut63 (ns : List Int) : ∃ ms : List Int, cutV (ns.map V.int) (some 12) (some 63) = ms.map V.int ∧ ms.length ≤ ns.length - 12 := by
  obtain ⟨ms, h1, h2⟩ := cut_ints ns (some 12) (some 63)
  refine ⟨ms, h1, ?_⟩
  rw [h2, List.length_take, List.length_drop]
  have a1 : HT.sIx ns.length 0 (some 12) = min 12 ns.length := sIx_nat _ _ 12
  have a2 : HT.sIx ns.length ns.length (some 63) = min 63 ns.length := sIx_nat _ _ 63
  rw [a1, a2]; omega
theorem set_ints (ns : List Int) (j : Nat) (v : Int) : (ns.map V.int).set j (.int v) = (ns.set j v).map V.int := by rw [List.map_set]
theorem ok_open {f : Addr} {fd : FuncData} (F : Fun K "_law_open" "_law_open" sOpen f fd) (m1 : mg "list" = none) (m2 : mg "enumerate" = none) : FnOk P w K mg base CX0 1 f fd ["script"] (spOpen K) := by
  refine F.ok scOpen (fun vs H Q E h => ?_) (fun cdv A outer s H vs Q E hr h => ?_)
  · obtain ⟨a, ns, rfl, _⟩ := h
    rfl
  · obtain ⟨a, ns, rfl, hS, hl, k⟩ := h
    refine ⟨_, pss_cons (ps_set (i := 1) scOpen.nd rfl (Or.inl rfl) (pe_callTy call_list_of (by rfl) m1 boot_list (pa_cons (pe_slice sl_list (pv 0) po_none (po_some pe_int)) pa_nil)))
      (pss_cons (ps_for PassesOwn.never rfl (pi_enum (by rfl) m2 (pa_cons (pe_slice sl_list (pv 0) (po_some pe_int) (po_some pe_int)) pa_nil))
        (pg_tup (by rfl) (pgs_cons (pg_name (i := 2) scOpen.nd rfl (Or.inl rfl)) (pgs_cons (pg_name (i := 3) scOpen.nd rfl (Or.inl rfl)) pgs_nil)))
        (pss_one (ps_asg (pe_op op_add (pe_ix ix_list (pv 1) (pe_op op_mod (pv 2) pe_int) (fun _ _ => rfl)) (pv 3)) (pg_sub (pv 1) (pe_op op_mod (pv 2) pe_int) set_list))))
      (pss_one (ps_ret (pe_lst (pa_cons (pv 1) (pa_cons pe_int (pa_cons pe_int pa_nil))))))), ?_⟩
    obtain ⟨ms, e1, l1⟩ := cut12 ns
    obtain ⟨us, e2, l2⟩ := cut63 ns
    refine ⟨_, rfl, 12, rfl, a, _, rfl, hS, fun p1 n1 => ?_⟩
    rw [e1]
    refine ⟨p1, _, rfl, .inl (SqL.of upd_same), fun c nc => ?_⟩
    have s1 : Same H (upd (upd H p1 (.lst (ms.map V.int))) c (.lst (ms.map V.int))) := (Same.upd n1).trans (Same.upd nc)
    refine ⟨_, rfl, 12, rfl, 63, rfl, a, _, rfl, s1.seq hS, fun p2 n2 => ?_⟩
    rw [e2]
    have nc2 : c ≠ p2 := ne_of_none upd_same n2
    refine ⟨p2, us.map V.int, rfl, SqL.of upd_same, for_it (walk_enum (K := K) (a := p2) (xs := us.map V.int)) (fun i σ H2 => ∃ (x2 x3 : Option V) (cs : List Int), σ = [some (.ref a), some (.ref c), x2, x3] ∧ H2 c = some (.lst (cs.map V.int)) ∧ cs.length = ms.length ∧
        (∀ b o, b ≠ c → upd (upd (upd H p1 (.lst (ms.map V.int))) c (.lst (ms.map V.int))) p2 (.lst (us.map V.int)) b = some o → H2 b = some o)) ?_ ?_ ?_ ?_⟩
    · exact ⟨none, none, ms, rfl, by rw [upd_ne nc2]; exact upd_same, rfl, fun _ _ _ e => e⟩
    · rintro i σ H2 hi ⟨x2, x3, cs, rfl, hc, hl, hk⟩
      exact SqL.of (hk _ _ nc2.symm upd_same)
    · rintro i x σ H2 H3 hi ⟨x2, x3, cs, rfl, hc, hlc, hk⟩ ⟨T, y, z, rfl, hT, rfl, ey, ez⟩
      obtain rfl : V.int ((i : Nat) : Int) = y := Option.some.inj ey
      have hi' : i < us.length := by rw [List.length_map] at hi; exact hi
      obtain ⟨v, rfl⟩ : ∃ v, z = V.int v := by
        have ez' : (us.map V.int)[i]? = some z := ez
        rw [List.getElem?_map, List.getElem?_eq_getElem hi'] at ez'
        exact ⟨us[i], (Option.some.inj ez').symm⟩
      have m12 : ms.length = 12 := by omega
      have hcT : c ≠ T := ne_of_none hc hT
      have b0 := Int.emod_nonneg ((i : Nat) : Int) (show (12 : Int) ≠ 0 by decide)
      have b1 := Int.emod_lt_of_pos ((i : Nat) : Int) (show (0 : Int) < 12 by decide)
      obtain ⟨u, hu⟩ := nat_at (xs := cs) b0 (by omega)
      refine ⟨T, _, rfl, SqT.of upd_same, rfl, _, _, rfl, _, _, rfl, rfl, ?_⟩
      refine ⟨_, rfl, _, rfl, _, _, rfl, rfl, (by show (0 : Int) < 12; decide), c, _, _, _, rfl, rfl, SqL.of (by rw [upd_ne hcT]; exact hc), hu, _, rfl, _, _, rfl, rfl, ?_⟩
      have hj : ixN (cs.map V.int).length (((i : Nat) : Int) % 12) = some (((i : Nat) : Int) % 12).toNat := by
        unfold ixN
        rw [List.length_map, if_pos b0, if_pos (by omega)]
      refine ⟨_, rfl, _, rfl, _, _, rfl, rfl, (by show (0 : Int) < 12; decide), c, _, _, _, rfl, rfl, (by rw [upd_ne hcT]; exact hc), hj, ?_⟩
      refine ⟨_, _, cs.set (((i : Nat) : Int) % 12).toNat (u + v), rfl, by rw [upd_same, set_ints], by rw [List.length_set]; exact hlc, fun b o hb e => ?_⟩
      rw [upd_ne hb, upd_ne (ne_of_none (hk b o hb e) hT)]
      exact hk b o hb e
    · rintro σ H2 ⟨x2, x3, cs, rfl, hc, hlc, hk⟩
      refine ⟨_, rfl, (by show 3 ≤ sizeLine; decide), fun p np => ?_⟩
      have sH : Same H H2 := fun b o e => hk b o (ne_of_none (Same.upd n1 b o e) nc) ((s1.trans (Same.upd n2)) b o e)
      have ncp : c ≠ p := ne_of_none hc np
      exact k p _ (sH.free np) (sH.trans (Same.upd np)) ⟨c, cs, 0, 0, upd_same, by rw [upd_ne ncp]; exact hc, by decide, by decide⟩
end
end My

namespace My
open PySem PySem.Spec PyProof.Rows L2
/-! ### t[::-1] -/
section
variable {prog : Program} {w : World} {A : Around} {E : Value → Shared → Prop} {s : Shared}
theorem backwards (xs : Array Value) : ((List.range xs.size).filterMap fun (m : Nat) => xs[((xs.size : Int) - 1 + (m : Int) * -1).toNat]?).toArray = xs.toList.reverse.toArray := by
  have e1 : (List.range xs.size).filterMap (fun (m : Nat) => xs[((xs.size : Int) - 1 + (m : Int) * -1).toNat]?) = ((List.range xs.size).map fun k => xs.size - 1 - k).filterMap (xs[·]?) := by
    rw [List.filterMap_map]
    congr 1
    funext m
    show _ = xs[xs.size - 1 - m]?
    have : ((xs.size : Int) - 1 + (m : Int) * -1).toNat = xs.size - 1 - m := by omega
    rw [this]
  rw [e1, PySem.W.krv_range, List.filterMap_reverse, PySem.W.krv_all]
theorem getItem_back {t sl : Addr} {items : Array Value} {tk : Tok} {Q : Value → Shared → Prop} (ht : IsTup s.heap t items) (hs : s.heap.IsSliceOf sl .none .none (.int (-1) tk)) (hsz : items.size ≤ sizeLine)
    (q : Q (.ref s.heap.objs.size) { s with heap := s.heap.push { cls := .type "tuple", data := .seq items.toList.reverse.toArray } }) : wpAny (model prog w) A (getItem (.ref t) (.ref sl)) Q E s := by
  have hfit : sizeOk (.seq items.toList.reverse.toArray) := by show items.toList.reverse.toArray.size ≤ sizeLine; simpa using hsz
  obtain ⟨ob, hob, hcl, hdat⟩ := id hs
  have hT : s.TypeIs (.ref sl) "slice" := ⟨ob, hob, hcl⟩
  unfold getItem; try with_reducible refine wpAny_holding ?_
  first | refine wpAny_bind (wpAny_pure ?_) | skip
  refine wpAny_bind (wpAny_sequenceKey ht.typeIs (by decide) ?_); refine wpAny_bind (wpAny_callSpecial?_slot (name := Str.ofString "__getitem__") ht.typeIs slot_tuple_getitem (wpAny_call_entry slot_tuple_getitem ht.typeIs entry_tuple_getitem ?_ (args_tuple_getitem _ _)))
  show wpAny _ _ (Builtin.Tuple.tupleItemsOf (.ref t) >>= _) _ _ s; refine wpAny_bind (tupleItemsOf_ ht ?_); refine wpAny_bind (wpAny_typeOf hT ?_); rw [if_pos (by decide)]
  have step : ∀ {R : Int × Int × Nat → Shared → Prop}, R ((items.size : Int) - 1, -1, items.size) s → wpAny (model prog w) A.in1 (Builtin.Slice.sliceApplied (.ref sl) (pure (items.size : Int))) R E s := by
    intro R hR; unfold Builtin.Slice.sliceApplied Builtin.Slice.sliceFields
    refine wpAny_bind (wpAny_bind (wpAny_field hob hdat (x := .none) rfl (wpAny_bind (wpAny_field hob hdat (x := .none) rfl (wpAny_bind (wpAny_field hob hdat (x := .int (-1) tk) rfl (wpAny_pure ?_)))))))
    refine wpAny_bind (slicePart_int ?_); show wpAny _ _ (if ((-1 : Int) == 0) = true then _ else _) _ _ s; rw [if_neg (by decide)]
    refine wpAny_bind (PyProof.Rows.slicePart_none (wpAny_bind (PyProof.Rows.slicePart_none (wpAny_bind (wpAny_pure ?_)))))
    show wpAny _ _ (match Builtin.Slice.sliceAdjust none none (-1) (items.size : Int) with | (lo, hi) => pure (lo, (-1 : Int), Builtin.Slice.slicePlaces lo hi (-1))) _ _ s
    have e1 : Builtin.Slice.sliceAdjust none none (-1) (items.size : Int) = ((items.size : Int) - 1, -1) := rfl
    rw [e1]; show wpAny _ _ (pure ((items.size : Int) - 1, (-1 : Int), Builtin.Slice.slicePlaces ((items.size : Int) - 1) (-1) (-1))) _ _ s
    have e2 : Builtin.Slice.slicePlaces ((items.size : Int) - 1) (-1) (-1) = items.size := by
      unfold Builtin.Slice.slicePlaces
      have h1 : ¬ ((-1 : Int) > 0) := by decide
      simp only [h1, if_false]
      by_cases h : (items.size : Int) - 1 > -1
      · rw [if_pos h, show (- -1 : Int) = 1 by decide, Int.ediv_one]; omega
      · rw [if_neg h]; omega
    rw [e2]; exact wpAny_pure hR
  refine wpAny_bind (step ?_)
  show wpAny _ _ (if (((items.size : Int) - 1) == 0 && (-1 : Int) == 1 && items.size == items.size) = true then _ else _) _ _ s
  rw [if_neg (by rw [show ((-1 : Int) == 1) = false by decide, Bool.and_false, Bool.false_and]; decide), backwards]
  first
    | exact wpAny_bind (m := Builtin.Tuple.tupleExact _) (wpAny_newObj_type (wpAny_pure ⟨_, rfl, wpAny_pure q⟩) hfit)
    | exact wpAny_bind (m := Builtin.Tuple.tupleExact _) (wpAny_newObj_type (wpAny_bind (wpAny_pure (wpAny_pure ⟨_, rfl, wpAny_pure q⟩))) hfit)
    | exact wpAny_bind (wpAny_bind (m := Builtin.Tuple.tupleExact _) (wpAny_newObj_type (wpAny_pure (wpAny_pure ⟨_, rfl, wpAny_pure q⟩)) hfit))
    | exact wpAny_bind (wpAny_bind (m := Builtin.Tuple.tupleExact _) (wpAny_newObj_type (wpAny_pure ⟨_, rfl, wpAny_pure q⟩) hfit))
end
section
variable {X : Cx}
def tRevT (K : PySem.W.Frag) (te : TE) : TE := fun σ H Q => te σ H fun x H1 => ∃ a xs, x = .ref a ∧ SqT K H1 a xs ∧ ∀ p, H1 p = none → Q (.ref p) (upd H1 p (.tup xs.reverse))
theorem pe_revT {e : Expr} {te : TE} {k : Nat} {p1 p2 p3 pos : Pos} (he : PE X e te) : PE X (.Subscript e (.Slice none none (some (.UnaryOp .USub (.Constant (.int 1) k p1) p2)) p3) pos) (tRevT X.K te) := by
  refine ⟨fun pins s σ H Q I h => ?_⟩
  refine Subscript_ (thn (he.run pins s σ H _ I h) fun v s1 ⟨x, H1, I1, r1, q1⟩ => ?_)
  obtain ⟨a, xs, ex, hx, q⟩ := q1
  subst ex; cases r1
  have hst : PO X (some (.UnaryOp .USub (.Constant (.int 1) k p1) p2)) (tPart (tUn (rU fun i => .int (-i)) (tC (.int 1)))) := po_some (pe_un un_neg pe_int)
  refine wpAny_Slice (thn (po_none.run pins s1 σ H1 (fun o H2 => o = none ∧ H2 = H1) I1 ⟨rfl, rfl⟩) fun vl s2 ⟨l, H2, I2, pl, el, e2⟩ => ?_)
  subst el e2
  refine thn (po_none.run pins s2 σ H2 (fun o H3 => o = none ∧ H3 = H2) I2 ⟨rfl, rfl⟩) fun vu s3 ⟨u, H3, I3, pu, eu, e3⟩ => ?_
  subst eu e3
  refine thn (hst.run pins s3 σ H3 (fun o H4 => o = some (-1) ∧ H4 = H3) I3 ⟨1, rfl, -1, rfl, rfl, rfl⟩) fun vs s4 ⟨o, H4, I4, ps, eo, e4⟩ => ?_
  subst eo e4
  cases pl; cases pu; cases ps with
  | int i tk =>
  have J : Inv X pins σ H4 { s4 with heap := s4.heap.push { cls := .type "slice", data := .fields #[.none, .none, .int (-1) tk] } } := I4.kept (t' := s4.toks) fun b ob q => Heap.get?_push_of_some _ q
  obtain ⟨its, r, ht, hz⟩ := J.tuple hx
  have hl := r.length
  show wpAny (model X.prog X.w) X.A (subscriptTail e (.Slice none none (some (.UnaryOp .USub (.Constant (.int 1) k p1) p2)) p3) (.ref a) (.ref s4.heap.objs.size)) (EP X pins σ Q) X.xe { s4 with heap := s4.heap.push { cls := .type "slice", data := .fields #[.none, .none, .int (-1) tk] } }
  refine tail_any (ops := [.ref a, .ref s4.heap.objs.size]) ht.typeIs (slot_tuple_getitem.lookup) ?_ (by with_unfolding_all rfl)
  refine getItem_back ht (Heap.IsSliceOf.new _ .none .none (.int (-1) tk)) (by rw [List.size_toArray]; omega) ?_
  refine ⟨.ref _, _, J.laid (t' := s4.toks) (o := .tup xs.reverse) (fun b ob q => Heap.get?_push_of_some _ q) (Nat.le_refl _) ?_, rfl, q _ (J.hok.fresh (Nat.le_refl _))⟩
  exact ⟨by rw [List.length_reverse]; exact hz, _, r.reverse, IsTup.new _ _⟩
end
/-! ### repr -/
section
variable {X : Cx}
def rRepr (K : PySem.W.Frag) : List V → Hp → VK → Prop := fun xs H Q => ∃ (v : V) (d : PyData) (G : Hp), xs = [v] ∧ Same G H ∧ Dq K G v d ∧ d.showable = true ∧ (d.hasDict = true → hasList d = false) ∧ d.depth ≤ 100 ∧ d.shown.length ≤ sizeLine ∧ Q (.str d.shown) H
theorem cr_repr (hg : X.A.guards = some []) (hu : X.A.units + 111 < cLine) : CallR X (.builtin "repr") (rRepr X.K) := by
  intro pins s σ H xs us Q I r h
  obtain ⟨v, d, G, rfl, e, h, hs, hm, hd, hz, q⟩ := h
  have h' := h.mono e
  have key : ∀ a : Addr, us = [.ref a] → RelV v (.ref a) → wpAny (model X.prog X.w) X.A (call (.builtin "repr") us) (EP X pins σ Q) X.xe s := fun a ea ra => by
    subst ea
    obtain ⟨as, hr, hn⟩ := Dq.reads I d v _ h' ra
    exact repr_of_reads' hr hs (fun z => hn (hm z)) hg (by omega) (fun _ _ e => e) (fun h2 u tk hk => ⟨.str _, H, I.kept hk, ⟨_, rfl⟩, q⟩) hz
  cases r with
  | cons r0 rr =>
    cases rr
    cases h with
    | non => cases r0; exact PySem.P.repr_of_none ⟨.str _, H, I.tok _, ⟨_, rfl⟩, q⟩
    | bl b => cases r0; exact PySem.P.repr_of_bool ⟨.str _, H, I.tok _, ⟨_, rfl⟩, q⟩
    | int i =>
      obtain ⟨t, rfl⟩ := r0
      exact PySem.P.repr_of_int (by simpa [PyData.showable] using hs) ⟨.str _, H, I.tok _, ⟨_, rfl⟩, q⟩
    | str x =>
      obtain ⟨t, rfl⟩ := r0
      exact PySem.P.repr_of_str ⟨.str _, H, I.tok _, ⟨_, rfl⟩, q⟩ hz
    | lst _ _ => cases r0; exact key _ rfl rfl
    | tup _ _ => cases r0; exact key _ rfl rfl
    | dct _ _ _ => cases r0; exact key _ rfl rfl
end
/-! ### data made by an expression -/
structure Nw (G H G' H' : Hp) : Prop where
  gg : Same G G'
  gh : Same G' H'
  hh : Same H H'
  old : ∀ b, H b ≠ none → G' b = G b
theorem Nw.refl {G H : Hp} (e : Same G H) : Nw G H G H := ⟨Same.refl _, e, Same.refl _, fun _ _ => rfl⟩
theorem Nw.trans {G H G1 H1 G2 H2 : Hp} (a : Nw G H G1 H1) (b : Nw G1 H1 G2 H2) : Nw G H G2 H2 := by
  refine ⟨a.gg.trans b.gg, b.gh, a.hh.trans b.hh, fun c h => ?_⟩
  have h1 : H1 c ≠ none := by
    cases q : H c with
    | none => exact absurd q h
    | some o => rw [a.hh c o q]; exact fun z => nomatch z
  rw [b.old c h1, a.old c h]
theorem Nw.mk1 {G H : Hp} (e : Same G H) {p : Addr} (n : H p = none) (o : HO) : Nw G H (upd G p o) (upd H p o) := by
  refine ⟨Same.upd (e.free n), fun b u h => ?_, Same.upd n, fun b h => upd_ne (fun z => h (by rw [z]; exact n))⟩
  by_cases hb : b = p
  · subst hb; rw [upd_same] at h ⊢; exact h
  · rw [upd_ne hb] at h ⊢; exact e b u h
theorem PE.imp {X : Cx} {e : Expr} {t t' : TE} (h : PE X e t) (i : ∀ σ H Q, t' σ H Q → t σ H Q) : PE X e t' := ⟨fun pins s σ H Q I q => h.run pins s σ H Q I (i σ H Q q)⟩
theorem PA.imp {X : Cx} {es : List Expr} {t t' : TA} (h : PA X es t) (i : ∀ σ H Q, t' σ H Q → t σ H Q) : PA X es t' := ⟨fun pos pins s σ H Q I q => h.run pos pins s σ H Q I (i σ H Q q)⟩
def tDc (K : PySem.W.Frag) (d : PyData) : TE := fun _ H Q => ∃ G, Same G H ∧ ∀ v G' H', Nw G H G' H' → Dq K G' v d → Q v H'
def tDcs (K : PySem.W.Frag) (ds : List PyData) : TA := fun _ H Q => ∃ G, Same G H ∧ ∀ vs G' H', Nw G H G' H' → DqAll K G' vs ds → Q vs H'
section
variable {X : Cx} {pos : Pos}
theorem dc_int {i : Int} {j : Nat} : PE X (.Constant (.int i) j pos) (tDc X.K (.int i)) := PE.imp pe_int fun _ _ _ ⟨_, e, k⟩ => k _ _ _ (Nw.refl e) (.int i)
theorem dc_str {x : Str} {j : Nat} : PE X (.Constant (.str x) j pos) (tDc X.K (.str x)) := PE.imp pe_str fun _ _ _ ⟨_, e, k⟩ => k _ _ _ (Nw.refl e) (.str x)
theorem dc_bl {b : Bool} {j : Nat} : PE X (.Constant (.bool b) j pos) (tDc X.K (.bool b)) := PE.imp pe_bl fun _ _ _ ⟨_, e, k⟩ => k _ _ _ (Nw.refl e) (.bl b)
theorem dc_non {j : Nat} : PE X (.Constant .none j pos) (tDc X.K .none) := PE.imp pe_non fun _ _ _ ⟨_, e, k⟩ => k _ _ _ (Nw.refl e) .non
theorem dc_neg {i : Int} {j : Nat} {p : Pos} : PE X (.UnaryOp .USub (.Constant (.int i) j p) pos) (tDc X.K (.int (-i))) := PE.imp (pe_un un_neg pe_int) fun _ _ _ ⟨_, e, k⟩ => ⟨i, rfl, k _ _ _ (Nw.refl e) (.int _)⟩
theorem dc_pow {i j : Int} {a b : Nat} {p q : Pos} (h : CPow i j) : PE X (.BinOp (.Constant (.int i) a p) .Pow (.Constant (.int j) b q) pos) (tDc X.K (.int (i ^ j.toNat))) :=
  PE.imp (pe_op op_pow pe_int pe_int) fun _ _ _ ⟨_, e, k⟩ => ⟨i, j, rfl, rfl, h, k _ _ _ (Nw.refl e) (.int _)⟩
theorem das_nil : PA X [] (tDcs X.K []) := PA.imp pa_nil fun _ _ _ ⟨_, e, k⟩ => k _ _ _ (Nw.refl e) .nil
theorem das_cons {e : Expr} {es : List Expr} {d : PyData} {ds : List PyData} (h1 : PE X e (tDc X.K d)) (h2 : PA X es (tDcs X.K ds)) (hs : starEach (e :: es) X.env = (false, eval e X.env) :: starEach es X.env := by rfl) : PA X (e :: es) (tDcs X.K (d :: ds)) :=
  PA.imp (pa_cons h1 h2 hs) fun _ _ _ ⟨G, e, k⟩ => ⟨G, e, fun _ G1 _ n1 d1 => ⟨G1, n1.gh, fun _ _ _ n2 d2 => k _ _ _ (n1.trans n2) (.cons (d1.mono n2.gg) d2)⟩⟩
theorem dc_tup {es : List Expr} {ds : List PyData} {x1} (h : PA X es (tDcs X.K ds)) (hl : ds.length ≤ sizeLine) : PE X (.Tuple es x1 pos) (tDc X.K (.tuple ds)) :=
  PE.imp (pe_tup h) fun _ _ _ ⟨G, e, k⟩ => ⟨G, e, fun vs G1 H1 n1 d1 => ⟨by rw [d1.len]; exact hl, fun p np => k _ _ _ (n1.trans (Nw.mk1 n1.gh np (.tup vs))) (.tup upd_same (d1.mono (Nw.mk1 n1.gh np (.tup vs)).gg))⟩⟩
theorem dc_lst {es : List Expr} {ds : List PyData} (h : PA X es (tDcs X.K ds)) (hl : ds.length ≤ sizeLine) : PE X (.List es pos) (tDc X.K (.list ds)) :=
  PE.imp (pe_lst h) fun _ _ _ ⟨G, e, k⟩ => ⟨G, e, fun vs G1 H1 n1 d1 => ⟨by rw [d1.len]; exact hl, fun p np => k _ _ _ (n1.trans (Nw.mk1 n1.gh np (.lst vs))) (.lst upd_same (d1.mono (Nw.mk1 n1.gh np (.lst vs)).gg))⟩⟩
theorem dc_dict0 : PE X (.Dict [] [] pos) (tDc X.K (.dict [])) :=
  PE.imp pe_dnewK fun _ _ _ ⟨G, e, k⟩ => fun p np => k _ _ _ (Nw.mk1 e np (.dK [])) (.dct upd_same .nil .nil)
theorem dc_dict01 {a b c d : Nat} {p1 p2 p3 p4 : Pos} : PE X (.Dict [some (.Constant (.int 0) a p1), some (.Constant (.int 1) b p2)] [.Constant (.int 1) c p3, .Constant (.int 1) d p4] pos) (tDc X.K (.dict [(.int 0, .int 1), (.int 1, .int 1)])) := by
  refine PE.imp (pe_disp (pps_cons pe_int pe_int (pps_cons pe_int pe_int pps_nil)) rfl rfl (by simp) (by show 2 ≤ 15; decide)) fun _ H Q ⟨G, e, k⟩ => fun p np => ?_
  refine ⟨upd_same, [(.inl 0, .int 1), (.inl 1, .int 1)], rfl, by decide, ?_⟩
  rw [upd_upd]
  exact k _ _ _ (Nw.mk1 e np (.dK [(.inl 0, .int 1), (.inl 1, .int 1)])) (.dct upd_same (.cons (.int _) (.cons (.int _) .nil)) (.cons (.int _) (.cons (.int _) .nil)))
end
/-! ### types of data -/
def tyN : PyData → String
  | .none => "NoneType"
  | .bool _ => "bool"
  | .int _ => "int"
  | .str _ => "str"
  | .list _ => "list"
  | .tuple _ => "tuple"
  | .dict _ => "dict"
theorem Dq.ty {K : PySem.W.Frag} {G H : Hp} (e : Same G H) : ∀ {v : V} {d : PyData}, Dq K G v d → TyX K H v (.type (tyN d))
  | _, _, .non => .base .non
  | _, _, .bl b => .base (.bl b)
  | _, _, .int i => .base (.int i)
  | _, _, .str x => .base (.str x)
  | _, _, .lst h _ => .base (.lst (e _ _ h))
  | _, _, .tup h _ => .base (.tup (e _ _ h))
  | _, _, .dct h _ _ => .base (.dK (e _ _ h))
def isT (T : String) (d : PyData) : Bool := tyN d == T
theorem kit_int : ∀ d : PyData, kitB (tyN d) "int" = some (isT "int" d || isT "bool" d)
  | .none => by decide +kernel
  | .bool _ => (by decide +kernel : kitB "bool" "int" = some true)
  | .int _ => (by decide +kernel : kitB "int" "int" = some true)
  | .str _ => (by decide +kernel : kitB "str" "int" = some false)
  | .list _ => (by decide +kernel : kitB "list" "int" = some false)
  | .tuple _ => (by decide +kernel : kitB "tuple" "int" = some false)
  | .dict _ => (by decide +kernel : kitB "dict" "int" = some false)
theorem kit_bool : ∀ d : PyData, kitB (tyN d) "bool" = some (isT "bool" d)
  | .none => by decide +kernel
  | .bool _ => (by decide +kernel : kitB "bool" "bool" = some true)
  | .int _ => (by decide +kernel : kitB "int" "bool" = some false)
  | .str _ => (by decide +kernel : kitB "str" "bool" = some false)
  | .list _ => (by decide +kernel : kitB "list" "bool" = some false)
  | .tuple _ => (by decide +kernel : kitB "tuple" "bool" = some false)
  | .dict _ => (by decide +kernel : kitB "dict" "bool" = some false)
theorem kit_tuple : ∀ d : PyData, kitB (tyN d) "tuple" = some (isT "tuple" d)
  | .none => by decide +kernel
  | .bool _ => (by decide +kernel : kitB "bool" "tuple" = some false)
  | .int _ => (by decide +kernel : kitB "int" "tuple" = some false)
  | .str _ => (by decide +kernel : kitB "str" "tuple" = some false)
  | .list _ => (by decide +kernel : kitB "list" "tuple" = some false)
  | .tuple _ => (by decide +kernel : kitB "tuple" "tuple" = some true)
  | .dict _ => (by decide +kernel : kitB "dict" "tuple" = some false)
theorem isi_read {K : PySem.W.Frag} {G H : Hp} {v : V} {d : PyData} {T : String} {b : Bool} {Q : VK} (e : Same G H) (h : Dq K G v d) (hk : kitB (tyN d) T = some b) (q : Q (.bl b) H) : rIsi K [v, .ty T] H Q :=
  ⟨v, .ty T, .type (tyN d), .type T, b, rfl, .ty T, h.ty e, kit_ty hk, q⟩
theorem PenAt.some {H : Hp} {p : Addr} {t : Nat} (h : PenAt H p t) : H p ≠ none := by
  obtain ⟨c, cells, x, y, h1, _⟩ := h.ex
  rw [h1]; exact fun z => nomatch z
theorem pen_not {H : Hp} {p l : Addr} {t : Nat} (h : PenAt H p t) (n : H l = none) : l ≠ p := fun z => h.some (by rw [← z]; exact n)
theorem keep_ne {H H1 : Hp} (e : Same H H1) {c : Addr} (h : H c ≠ none) : H1 c ≠ none := by
  cases z : H c with
  | none => exact absurd z h
  | some o => rw [e c o z]; exact fun y => nomatch y
theorem lst_new {G H G1 H1 : Hp} (m : Nw G H G1 H1) {q : Addr} (n : H1 q = none) (o : HO) : Nw G H G1 (upd H1 q o) :=
  ⟨m.gg, m.gh.trans (Same.upd n), m.hh.trans (Same.upd n), m.old⟩
theorem same_but {G H H' : Hp} {p : Addr} (e : Same G H) (n : G p = none) (b : But p H H') : Same G H' := fun a o h => b a o (ne_of_none h n) (e a o h)
theorem ifF {c : Bool} {A B : Prop} (h : c = false) (q : B) : if c = true then A else B := by rw [h]; exact iteF q
theorem ifT {c : Bool} {A B : Prop} (h : c = true) (q : A) : if c = true then A else B := by rw [h]; exact iteT q
theorem some_ne {H : Hp} {b : Addr} {o : HO} (h : H b = some o) : H b ≠ none := by rw [h]; exact fun z => nomatch z
theorem same0 (H : Hp) : Same (fun _ => none) H := fun _ _ h => nomatch h
/-! ### the law's own call: what runs around it is known (no repr is under way) -/
def AtTop (P : Program) (w : World) (K : PySem.W.Frag) (mg : Str → Option Value) (base : Heap) (fa : Addr) (fd : FuncData) (ps : List Str) (sp : Sp) : Prop :=
  ∀ (out : List Env) (s : Shared) (H : Hp) (args : Args) (us : List Value) (vs : List V) (Q : VK) (E : XK), Env0 P w K mg base callerA out s H → BindsTo s fd args (ps.zip us) → Vals vs us → sp vs H Q E → codeAny (model P w) callerA (.call (.ref fa) args) (CR CX0 out P w H s Q E) s
theorem top_ok {P : Program} {w : World} {K : PySem.W.Frag} {mg : Str → Option Value} {base : Heap} {x qual : Str} {st : Stmt} {f : Addr} {fd : FuncData} {N ps : List Str} {k : Nat} {sp : Sp} (F : Fun K x qual st f fd) (S : FnScope N ps (defScope st)) (len : ∀ vs H Q E, sp vs H Q E → vs.length = ps.length) (hr : Room (k + 1) callerA)
    (hbody : ∀ (cdv : Value) (out : List Env) (s : Shared) (H : Hp) (vs : List V) (Q : VK) (E : XK), Room k (callerA.deeper (envOfC qual (defScope st) s.heap.objs.size f cdv)) → sp vs H Q E →
      ∃ t, PSs (cxOf CX0 P w K mg base N qual (defScope st) f cdv callerA out s H E).nox (defBody st) t ∧ t { nx := fun _ H' => Q .non H', rt := Q } (start N vs) H) : AtTop P w K mg base f fd ps sp := by
  obtain ⟨oc, od, kV, doc, pm, an, cdv, ct, osl, rfl, lk, hcd⟩ := F.ex
  intro out s H args us vs Q E e0 hb r hsp
  have hl := len _ _ _ _ hsp
  have KI : K.In s.heap := e0.mod.kin.keeps fun b o e => (e0.bs b o e).1
  have nl : s.heap.NoLimit := e0.mod.nolimit.keeps fun b o e => (e0.bs b o e).1
  have hk : ∀ y ∈ ps.zip us, (defScope st).names.lookup y.1 = some .local ∨ ((defScope st).names.lookup y.1 = some .cell ∧ ((cellsFrom (s.heap.objs.size + 1) (defScope st).names []).lookup y.1).isSome = true) := fun ⟨n, v⟩ hy => by
    rcases S.par n (List.of_mem_zip hy).1 with q | q
    · exact .inl q
    · exact .inr ⟨q, PySem.W.cellsFrom_some _ _ _ (.inl q)⟩
  refine codeAny_call_function hr.depth (KI _ _ lk) rfl S.co S.gen rfl (PySem.W.codeRec_of KI hcd) (hb _ _ _ _ ?_)
  refine wpAny_newFunctionEnv_cells S.kind hk fun env he s1 x => ?_
  subst he; refine ⟨nl.keeps x.toInCall.keep, codeAny_func ?_⟩
  obtain ⟨t, ht, hq⟩ := hbody cdv out s H vs Q E (hr.deeper _) hsp
  have I : Inv (cxOf CX0 P w K mg base N qual (defScope st) f cdv callerA out s H E) [] (start N vs) H s1 := inv_start S hr.hd e0 hl r x
  refine wpAny_mono (ht.nox.run [] s1 (start N vs) H _ I hq) (fun fl s' hs => ?_) fun e s' hs => hs
  have fin : ∀ {σ' : L2.St} {H' : Hp} {v : V} {u : Value}, Inv (cxOf CX0 P w K mg base N qual (defScope st) f cdv callerA out s H E) [] σ' H' s' → RelV v u → Q v H' → CE out P w H s Q u s' := fun {σ' H' v u} J rv q => ⟨v, H', J.os, J.bare, J.base, J.hok, rv, q⟩
  cases fl with
  | ret u => obtain ⟨v, σ', H', J, rv, q⟩ := hs; exact fin J rv q
  | next => obtain ⟨σ', H', J, q⟩ := hs; exact fin (v := V.non) (u := Value.none) J rfl q
  | brk => obtain ⟨_, _, _, q⟩ := hs; exact False.elim q
  | cont => obtain ⟨_, _, _, q⟩ := hs; exact False.elim q
theorem top_call {P : Program} {w : World} {K : PySem.W.Frag} {mg mb : Str → Option Value} {fa a : Addr} {fd : FuncData} {x : Str} {sp : Sp} {s₁ : Shared} {us : List Value} {ns : List Int}
    (KX : K.In s₁.heap) (hn : s₁.heap.Ns mainGlobals mg) (hb : s₁.heap.Ns builtinsNs mb) (hbb : ∀ x : Str, x ≠ "__name__" → mb x = bootBuiltins x) (hlim : s₁.heap.NoLimit) (hg : s₁.gens = #[])
    (ha : s₁.heap.get? a = some { cls := .type "list", data := .seq us.toArray }) (hi : IntsAre us ns) (hl : ns.length ≤ sizeLine)
    (F : ∀ base : Heap, K.In base → base.Ns mainGlobals mg → AtTop P w K mg base fa fd [x] sp) (hbind : ∀ (s : Shared) (u : Value), BindsTo s fd ⟨[u], []⟩ [(x, u)])
    (hsp : ∀ H : Hp, Only H → SqL K H a (ns.map V.int) → sp [.ref a] H (fun v _ => v = .bl true) fun _ _ _ => False) :
    codeAny (model P w) callerA (.call (.ref fa) ⟨[.ref a], []⟩) (fun r s' => r = .ok (.ret (.bool true)) ∧ OldK s₁.heap s'.heap ∧ s'.os = s₁.os ∧ AllBare s'.gens) s₁ := by
  have rv := vals_ints hi
  have lenV := hi.length
  have main : ∀ H : Hp, Only H → SqL K H a (ns.map V.int) → HOk P w H s₁.heap → (∀ b, H b ≠ none → b = a) → (H a ≠ none → K.lookup a = none) →
      codeAny (model P w) callerA (.call (.ref fa) ⟨[.ref a], []⟩) (fun r s' => r = .ok (.ret (.bool true)) ∧ OldK s₁.heap s'.heap ∧ s'.os = s₁.os ∧ AllBare s'.gens) s₁ := by
    intro H hO hS hok hA hK
    have free : ∀ b : Addr, b ≠ a → H b = none := fun b n => by
      cases q : H b with
      | none => rfl
      | some u => exact absurd (hA b (by rw [q]; simp)) n
    have noA : ∀ {b : Addr} {o : Obj} {es : Array DictEntry} {ep : Nat}, s₁.heap.get? b = some o → o.data = .dict es ep → H b = none := fun {b o es ep} e d => free b fun z => by
      rw [z, ha] at e; cases e
      exact absurd (show Data.seq us.toArray _ = Data.dict es ep from d) (fun z => nomatch z)
    have nsK : ∀ {b : Addr} {m : Str → Option Value}, s₁.heap.Ns b m → (hidT s₁.heap H).Ns b m := fun {b m} ⟨o, es, ep, e, d, r⟩ => ⟨o, es, ep, hidT_get e (noA e d), d, r⟩
    have hKb : K.In (hidT s₁.heap H) := fun b o e => hidT_get (KX b o e) (by
      cases q : H b with
      | none => rfl
      | some u =>
        have z : b = a := hA b (by rw [q]; simp)
        rw [z] at e q
        rw [hK (by rw [q]; simp)] at e; cases e)
    have hM : Mod K mg (hidT s₁.heap H) := ⟨hKb, nsK hn, ⟨mb, nsK hb, hbb⟩, let ⟨mc, h1, h2⟩ := hlim; ⟨mc, nsK h1, h2⟩⟩
    have e0 : Env0 P w K mg (hidT s₁.heap H) callerA [] s₁ H := ⟨rfl, hM, fun b o e => of_hidT e, Nat.le_of_eq (hidT_size _ _), trivial, fun b hb => (nomatch (show b ∈ ([] : List Addr) from hb)), hok, .of_eq hg⟩
    refine codeAny_mono (F _ hKb (nsK hn) [] s₁ H ⟨[.ref a], []⟩ [.ref a] [.ref a] _ _ e0 (hbind s₁ (.ref a)) (.cons rfl .nil) (hsp H hO hS)) fun r s' h => ?_
    cases r with
    | error e => exact False.elim h
    | ok fl =>
      cases fl with
      | next => exact False.elim h
      | brk => exact False.elim h
      | cont => exact False.elim h
      | ret u =>
        obtain ⟨v, H', os, bare, un, hok', r', q⟩ := h
        obtain rfl : v = .bl true := q
        obtain rfl : u = Value.bool true := r'
        refine ⟨rfl, OldK.of_keep fun b o e => ?_, os, bare⟩
        cases q : H b with
        | none => exact un.keep b o e q (fun z => nomatch (show b ∈ ([] : List Addr) from z)) (by simp)
        | some u =>
          rcases hO b with z | ⟨ob, xs, z⟩
          · rw [q] at z; cases z
          · obtain ⟨e1, _⟩ := hok b _ z
            obtain ⟨e2, _⟩ := hok' b _ (un.frzs b ob _ z)
            rw [e] at e1; cases e1; exact e2
  cases hk : K.lookup a with
  | some o =>
    have e := KX a o hk
    rw [ha] at e; cases e
    exact main (fun _ => none) (fun _ => .inl rfl) (.inr ⟨_, us.toArray, _, hk, rfl, rfl, rfl, by rw [List.size_toArray, lenV]; exact hl, by simpa using rv⟩) (fun b u z => nomatch (show (none : Option HO) = some u from z)) (fun b z => absurd rfl z) fun z => absurd rfl z
  | none =>
    refine main (fun b => if b = a then some (.frz { cls := .type "list", data := .seq us.toArray } (.lst (ns.map V.int))) else none) (fun b => ?_) (.inl (.inr ⟨{ cls := .type "list", data := .seq us.toArray }, if_pos rfl⟩)) (fun b u z => ?_) (fun b z => ?_) fun _ => hk
    · by_cases hb : b = a
      · exact .inr ⟨_, _, if_pos hb⟩
      · exact .inl (if_neg hb)
    · by_cases hb : b = a
      · have z' := (if_pos hb).symm.trans z
        cases z'; subst hb
        exact ⟨ha, by rw [List.length_map]; exact hl, us, _, rv, ha⟩
      · exact nomatch ((if_neg hb).symm.trans z)
    · by_cases hb : b = a
      · exact hb
      · exact absurd (if_neg hb) z
theorem walk_top {l : PySem.W.OpenLaw} {n : Nat} {q : Program} {loose : List Str} {XP : (Str → Option Value) → Heap → Prop} {YP : World → Heap → Prop} {d : DefRec} {K : Params → PySem.W.Frag} {sp : World → Sp} {x : Str}
    (hn : l.most = some n) (hn2 : n ≤ sizeLine) (hdf : d.params.defaults = []) (hY : ∀ (w : World) (h : Heap), YP w h → (K w.params).In h)
    (F : ∀ (w : World) (mg : Str → Option Value) (fa : Addr) (h : Heap), (K w.params).In h → h.Ns mainGlobals mg → mg d.name = some (.ref fa) →
      ∃ fd : FuncData, (∀ (s : Shared) (u : Value), BindsTo s fd ⟨[u], []⟩ [(x, u)]) ∧ ∀ base : Heap, (K w.params).In base → base.Ns mainGlobals mg → AtTop l.prog w (K w.params) mg base fa fd [x] (sp w))
    (hsp : ∀ (w : World) (H : Hp) (a : Addr) (ns : List Int), ns.length ≤ n → Only H → SqL (K w.params) H a (ns.map V.int) → sp w [.ref a] H (fun v _ => v = .bl true) fun _ _ _ => False) :
    PySem.W.WalkO q loose XP YP l.row.toRowW d [] (fun f vs => PySem.call f vs) := by
  refine Att.attach_call hn hdf fun w s₀ s₁ mg mb fa o pm cd doc a us ns G Y ho hd hcd hmg hobj hints hlen hg => ?_
  obtain ⟨fd, hb, hF⟩ := F w mg fa _ (hY w _ Y) G.T.g hmg
  exact top_call (hY w _ Y) G.T.g G.T.b G.T.builtins G.T.nolimit hg hobj hints (Nat.le_trans hlen hn2) hF hb fun H hO hS => hsp w H a ns hlen hO hS
end My

namespace My
open PySem PySem.Spec PyProof.Rows L2
/-! ### texts -/
abbrev tl (x : Str) : List Nat := x.cps.toList
theorem len_tl (x : Str) : x.length = (tl x).length := by simp [tl, Str.length]
theorem tl_ap (x y : Str) : tl (x ++ y) = tl x ++ tl y := by
  show (x ++ y).cps.toList = _
  rw [Str.cps_append, Array.toList_append]
def ofL (l : List Nat) : Str := ⟨l.toArray⟩
theorem tl_ofL (l : List Nat) : tl (ofL l) = l := rfl
theorem ofL_tl (x : Str) : ofL (tl x) = x := Str.ext' (by simp [ofL, tl])
/-- x * k, k at least 1 -/
def rMulS : R2 := fun x y H Q => ∃ (z : Str) (k : Nat), x = .str z ∧ y = .int k ∧ 1 ≤ k ∧ k ≤ 1000 ∧ z.length ≤ 1000 ∧ Q (.str (ofL (List.replicate k (tl z)).flatten)) H
theorem fold_cat : ∀ (k : Nat) (a b : Array Nat), ((List.replicate k b).foldl (· ++ ·) a).toList = a.toList ++ (List.replicate k b.toList).flatten
  | 0, a, b => by simp
  | k + 1, a, b => by
    rw [List.replicate_succ, List.foldl_cons, fold_cat k, List.replicate_succ, List.flatten_cons, Array.toList_append, List.append_assoc]
theorem op_mulS {X : Cx} : OpR X (binaryOp .Mult) rMulS := by
  intro pins s σ H x y v u Q I rx ry h
  obtain ⟨z, k, rfl, rfl, k1, k2, hz, q⟩ := h
  obtain ⟨t, rfl⟩ := rx
  obtain ⟨t', rfl⟩ := ry
  have big : ((z.length : Int)) ≤ (2 ^ 63 - 1) / (k : Int) := by
    rw [Int.le_ediv_iff_mul_le (by omega)]
    have : (z.length : Int) * (k : Int) ≤ 1000 * 1000 := Int.mul_le_mul (by omega) (by omega) (by omega) (by decide)
    omega
  have small : z.length * k ≤ 1000 * 1000 := Nat.mul_le_mul hz k2
  refine PySem.P.mul_str (by
    have h1 : ¬ ((k : Int) < -(2 ^ 63 : Int)) := by omega
    have h2 : ¬ ((k : Int) ≥ 2 ^ 63) := by omega
    rw [decide_eq_false h1, decide_eq_false h2]; rfl) (fun _ _ => by omega) (fun _ _ => ?_) ?_
  · rw [Int.toNat_natCast]
    refine decide_eq_false ?_
    have := line63
    show ¬ (z.length * k > _)
    have e : sizeLine = 16777216 := sizeLine_eq
    omega
  · rw [if_neg (by omega)]
    by_cases c : ((k : Int) == 1 || z.length == 0) = true
    · rw [if_pos c]
      have e : ofL (List.replicate k (tl z)).flatten = z := by
        rcases (Bool.or_eq_true _ _).mp c with c | c
        · have k1 : k = 1 := by have := (beq_iff_eq).mp c; omega
          subst k1
          show ofL (tl z ++ []) = z
          rw [List.append_nil, ofL_tl]
        · have z0 : tl z = [] := by
            have := (beq_iff_eq).mp c
            rw [len_tl] at this
            exact List.eq_nil_of_length_eq_zero this
          have : (List.replicate k (tl z)).flatten = [] := by rw [z0]; simp
          rw [this, ← z0, ofL_tl]
      rw [e] at q
      exact ⟨.str z, H, I, ⟨t, rfl⟩, q⟩
    · rw [if_neg c, Int.toNat_natCast]
      have e : (⟨(List.replicate k z.cps).foldl (· ++ ·) #[]⟩ : Str) = ofL (List.replicate k (tl z)).flatten := Str.ext' (Array.toList_inj.mp (by rw [fold_cat]; simp [ofL, tl]))
      rw [e]
      refine ⟨?_, .str _, H, I.tok _, ⟨_, rfl⟩, q⟩
      show (ofL (List.replicate k (tl z)).flatten).length ≤ sizeLine
      rw [len_tl, tl_ofL, List.length_flatten, List.map_replicate, List.sum_replicate_nat, ← len_tl, Nat.mul_comm, sizeLine_eq]
      omega
/-! ### letters -/
def Lets (l : List Nat) : Prop := ∀ c ∈ l, 97 ≤ c ∧ c ≤ 122
structure NameOk (x : Str) : Prop where
  lets : Lets (tl x)
  lo : 1 ≤ x.length
  hi : x.length ≤ 8
def sgS : Str := "abcdefghijklmnopqrstuvwxyz"
theorem sg_tl : tl sgS = (List.range 26).map (97 + ·) := by decide +kernel
theorem sg_len : sgS.length = 26 := by rw [len_tl, sg_tl]; decide
theorem sg_at {i : Int} (h0 : 0 ≤ i) (h1 : i < 26) : atI sgS.cps.toList i = some (97 + i.toNat) := by
  obtain ⟨j, rfl⟩ : ∃ j : Nat, i = (j : Int) := ⟨i.toNat, by omega⟩
  refine atI_nat ?_
  show (tl sgS)[j]? = _
  rw [sg_tl, List.getElem?_map, List.getElem?_range (by omega)]
  simp
def chr (i : Int) : Str := ⟨#[97 + i.toNat]⟩
theorem tl_chr (i : Int) : tl (chr i) = [97 + i.toNat] := rfl
theorem chr_len (i : Int) : (chr i).length = 1 := rfl
theorem lets_chr {i : Int} (h0 : 0 ≤ i) (h1 : i < 26) : Lets (tl (chr i)) := fun c hc => by
  rw [tl_chr] at hc
  have := List.mem_singleton.mp hc
  omega
theorem flat1 (m c : Nat) : (List.replicate m [c]).flatten = List.replicate m c := by
  induction m with
  | zero => rfl
  | succ n ih => rw [List.replicate_succ, List.flatten_cons, ih, List.replicate_succ]; rfl
def repC (m : Nat) (i : Int) : Str := ofL (List.replicate m (tl (chr i))).flatten
theorem tl_repC (m : Nat) (i : Int) : tl (repC m i) = List.replicate m (97 + i.toNat) := by
  show (List.replicate m [97 + i.toNat]).flatten = _
  exact flat1 m _
theorem repC_ok {m : Nat} {i : Int} (h0 : 0 ≤ i) (h1 : i < 26) (m1 : 1 ≤ m) (m2 : m ≤ 8) : NameOk (repC m i) := by
  refine ⟨fun c hc => ?_, ?_, ?_⟩
  · rw [tl_repC] at hc
    have := (List.mem_replicate.mp hc).2
    omega
  · rw [len_tl, tl_repC, List.length_replicate]; exact m1
  · rw [len_tl, tl_repC, List.length_replicate]; exact m2
theorem repC_inj {m n : Nat} {i j : Int} (m1 : 1 ≤ m) (h0 : 0 ≤ i) (h1 : 0 ≤ j) (h : repC m i = repC n j) : m = n ∧ i = j := by
  have e : List.replicate m (97 + i.toNat) = List.replicate n (97 + j.toNat) := by rw [← tl_repC, ← tl_repC, h]
  have l := congrArg List.length e
  rw [List.length_replicate, List.length_replicate] at l
  subst l
  refine ⟨rfl, ?_⟩
  have z : (97 + i.toNat) ∈ List.replicate m (97 + j.toNat) := by rw [← e]; exact List.mem_replicate.mpr ⟨by omega, rfl⟩
  have := (List.mem_replicate.mp z).2
  omega
def mid (x : Str) (a : Nat) (i : Int) : Str := cutS x none (some (a : Int)) ++ chr i ++ cutS x (some (a : Int)) none
theorem tl_cut_to (x : Str) {a : Nat} (h : a ≤ x.length) : tl (cutS x none (some (a : Int))) = (tl x).take a := by
  show ((x.cps.toList.drop 0).take (HT.sIx x.length x.length (some (a : Int)) - 0)) = _
  rw [sIx_nat, Nat.min_eq_left h]; rfl
theorem tl_cut_from (x : Str) {a : Nat} (h : a ≤ x.length) : tl (cutS x (some (a : Int)) none) = (tl x).drop a := by
  show ((x.cps.toList.drop (HT.sIx x.length 0 (some (a : Int)))).take (x.length - HT.sIx x.length 0 (some (a : Int)))) = _
  rw [sIx_nat, Nat.min_eq_left h]
  refine List.take_of_length_le ?_
  rw [List.length_drop, len_tl]
  exact Nat.le_refl _
theorem tl_mid (x : Str) {a : Nat} (i : Int) (h : a ≤ x.length) : tl (mid x a i) = (tl x).take a ++ [97 + i.toNat] ++ (tl x).drop a := by
  unfold mid
  rw [tl_ap, tl_ap, tl_cut_to x h, tl_cut_from x h, tl_chr]
theorem mid_ok {x : Str} {a : Nat} {i : Int} (h : a ≤ x.length) (hx : Lets (tl x)) (hl : x.length ≤ 7) (h0 : 0 ≤ i) (h1 : i < 26) : NameOk (mid x a i) := by
  have hl' := len_tl x
  have e : (mid x a i).length = x.length + 1 := by
    rw [len_tl, tl_mid x i h, List.length_append, List.length_append, List.length_take, List.length_drop, ← hl']
    simp only [List.length_cons, List.length_nil]
    omega
  refine ⟨fun c hc => ?_, by omega, by omega⟩
  rw [tl_mid x i h] at hc
  rcases List.mem_append.mp hc with hc | hc
  · rcases List.mem_append.mp hc with hc | hc
    · exact hx c (List.mem_of_mem_take hc)
    · have := List.mem_singleton.mp hc; omega
  · exact hx c (List.mem_of_mem_drop hc)
theorem mid_inj {x : Str} {a : Nat} {i j : Int} (h : a ≤ x.length) (h0 : 0 ≤ i) (h1 : 0 ≤ j) (e : mid x a i = mid x a j) : i = j := by
  have z : (tl x).take a ++ [97 + i.toNat] ++ (tl x).drop a = (tl x).take a ++ [97 + j.toNat] ++ (tl x).drop a := by rw [← tl_mid x i h, ← tl_mid x j h, e]
  have y := List.append_cancel_left (List.append_cancel_right z)
  injection y with y _
  omega
theorem nodup_of {α : Type} {f : Nat → α} {m : Nat} (h : ∀ i j, i < j → j < m → f i ≠ f j) : ((List.range m).map f).Nodup :=
  List.pairwise_map.mpr (List.Pairwise.imp_of_mem (R := (· < ·)) (fun {i j} _ hj hlt => h i j hlt (List.mem_range.mp hj)) List.pairwise_lt_range)
def nm0 (f a : Int) (k : Nat) : Str := repC (1 + ((a + 3 * k) % 8).toNat) ((f + 5 * k) % 26)
def nm1 (f a : Int) (k : Nat) : Str := repC (1 + ((a + k) % 8).toNat) f
def nm2 (x : Str) (f : Int) (a : Nat) (k : Nat) : Str := mid x a ((f + 5 * k) % 26)
structure NamesOk (ns : List Str) (m : Nat) : Prop where
  len : ns.length = m
  nod : ns.Nodup
  ok : ∀ x ∈ ns, NameOk x
theorem names_of {f : Nat → Str} {m : Nat} (h : ∀ i j, i < j → j < m → f i ≠ f j) (ok : ∀ i, i < m → NameOk (f i)) : NamesOk ((List.range m).map f) m :=
  ⟨by simp, nodup_of h, fun x hx => by
    obtain ⟨i, hi, rfl⟩ := List.mem_map.mp hx
    exact ok i (List.mem_range.mp hi)⟩
theorem md {x k : Int} (h : 0 < k) : 0 ≤ x % k ∧ x % k < k := ⟨Int.emod_nonneg _ (by omega), Int.emod_lt_of_pos _ h⟩
theorem names0 {f a : Int} {m : Nat} (hm : m ≤ 8) : NamesOk ((List.range m).map (nm0 f a)) m :=
  names_of (fun i j h1 h2 e => by
    have r1 := md (x := f + 5 * i) (k := 26) (by decide)
    have r2 := md (x := f + 5 * j) (k := 26) (by decide)
    have := (repC_inj (by omega) r1.1 r2.1 e).2
    omega) fun i _ => by
    have r1 := md (x := f + 5 * i) (k := 26) (by decide)
    have r2 := md (x := a + 3 * i) (k := 8) (by decide)
    exact repC_ok r1.1 r1.2 (by omega) (by omega)
theorem names1 {f a : Int} {m : Nat} (hm : m ≤ 8) (f0 : 0 ≤ f) (f1 : f < 26) : NamesOk ((List.range m).map (nm1 f a)) m :=
  names_of (fun i j h1 h2 e => by
    have r1 := md (x := a + i) (k := 8) (by decide)
    have r2 := md (x := a + j) (k := 8) (by decide)
    have := (repC_inj (by omega) f0 f0 e).1
    omega) fun i _ => by
    have r2 := md (x := a + i) (k := 8) (by decide)
    exact repC_ok f0 f1 (by omega) (by omega)
theorem names2 {x : Str} {f : Int} {a m : Nat} (hm : m ≤ 8) (h : a ≤ x.length) (hx : Lets (tl x)) (hl : x.length ≤ 7) : NamesOk ((List.range m).map (nm2 x f a)) m :=
  names_of (fun i j h1 h2 e => by
    have r1 := md (x := f + 5 * i) (k := 26) (by decide)
    have r2 := md (x := f + 5 * j) (k := 26) (by decide)
    have := mid_inj h r1.1 r2.1 e
    omega) fun i _ => by
    have r1 := md (x := f + 5 * i) (k := 26) (by decide)
    exact mid_ok h hx hl r1.1 r1.2
/-! ### joined -/
theorem join_nil (ys : List Str) : tl (Txt.join "" ys) = (ys.map tl).flatten := by
  show tl (Builtin.Str.glued (Str.ofString "") ys) = _
  rw [StrLaws.glued_eq_join]
  have e0 : tl (Str.ofString "") = [] := by decide +kernel
  have key : ∀ zs : List Str, tl (Str.join (Str.ofString "") zs) = (zs.map tl).flatten := by
    intro zs
    induction zs with
    | nil => rfl
    | cons x r ih =>
      cases r with
      | nil => show tl x = _; simp
      | cons y r =>
        show tl (x ++ Str.ofString "" ++ Str.join (Str.ofString "") (y :: r)) = _
        rw [tl_ap, tl_ap, e0, List.append_nil, ih]; rfl
  exact key ys
theorem join_chrs {cs : List Int} (h : ∀ c ∈ cs, 0 ≤ c ∧ c < 26) : Lets (tl (Txt.join "" (cs.map chr))) ∧ (Txt.join "" (cs.map chr)).length = cs.length := by
  have e : tl (Txt.join "" (cs.map chr)) = cs.map fun c => 97 + c.toNat := by
    rw [join_nil, List.map_map]
    clear h
    induction cs with
    | nil => rfl
    | cons c r ih => rw [List.map_cons, List.flatten_cons, ih]; rfl
  refine ⟨fun c hc => ?_, by rw [len_tl, e, List.length_map]⟩
  rw [e] at hc
  obtain ⟨d, hd, rfl⟩ := List.mem_map.mp hc
  have := h d hd
  omega
end My

namespace My
open PySem PySem.Spec PyProof.Rows L2
abbrev sNames : Stmt := topS 14
def spNames : Sp := fun vs H Q _ => ∃ (p pc : Addr) (m t : Nat), vs = [.ref p, .int m] ∧ m ≤ 8 ∧ PenC H p pc t ∧ t + 20 < 2 ^ 29 ∧
  ∀ (l : Addr) (ns : List Str) (H' : Hp), NamesOk ns m → H l = none → But p H H' → PenC H' p pc (t + 11) → H' l = some (.lst (ns.map V.str)) → Q (.ref l) H'
structure TxN (mg : Str → Option Value) : Prop where
  len : mg "len" = none
  range : mg "range" = none
section
variable {P : Program} {w : World} {K : PySem.W.Frag} {mg : Str → Option Value} {base : Heap}
theorem scNames : FnScope ["pen", "many", "signs", "stem", "at", "first", "way", "k"] ["pen", "many"] (defScope sNames) := ⟨rfl, rfl, rfl, by decide +kernel, rfl, by decide +kernel, by decide +kernel⟩
theorem small_nat {k : Nat} (h : k ≤ 1000) : (k : Int).natAbs < 2 ^ 8000 := Nat.lt_of_le_of_lt (show (k : Int).natAbs ≤ 1000 by omega) (by decide)
theorem small_int {k : Int} (h0 : 0 ≤ k) (h : k ≤ 1000) : k.natAbs < 2 ^ 8000 := Nat.lt_of_le_of_lt (show k.natAbs ≤ 1000 by omega) (by decide)
theorem map_snoc (f : Nat → Str) (i : Nat) : (((List.range i).map f).map V.str) ++ [V.str (f i)] = ((List.range (i + 1)).map f).map V.str := by
  rw [List.range_succ, List.map_append, List.map_append]; rfl
theorem ok_names {f fT : Addr} {fd fdT : FuncData} (F : Fun K "_law_names" "_law_names" sNames f fd) (T : TxN mg)
    (FT : Fun K "_law_take" "_law_take" sTake fT fdT) (GT : FnOk P w K mg base CX0 2 fT fdT ["pen", "many"] spTakeC) (bT : Binds K fdT ["pen", "many"] []) (gT : mg "_law_take" = some (.ref fT)) :
    FnOk P w K mg base CX0 3 f fd ["pen", "many"] spNames := by
  refine F.ok scNames (fun vs H Q E h => ?_) (fun cdv A outer s H vs Q E hr h => ?_)
  · obtain ⟨p, pc, m, t, rfl, _⟩ := h
    rfl
  · obtain ⟨p, pc, m, t, rfl, hm, PC, ht, k⟩ := h
    have hr2 := hr
    refine ⟨_, (pss_cons (ps_set (i := 2) scNames.nd rfl (Or.inr rfl) pe_str)
      (pss_cons (ps_set (i := 3) scNames.nd rfl (Or.inr rfl) (pe_bm PySem.F.plainAttrs_str PySem.F.slot_str_join PySem.F.type_str_join mt_join pe_str (pa_cons (pe_lc (own := [("k", 7)]) (g := gName 7) (tt := tYes) rfl scNames.nd (pi_range1 (by rfl) T.range (pa_cons (pe_call GT hr2 (by rfl) gT FT.kp bT .nil pass0 (pa_cons (pv 0) (pa_cons pe_int pa_nil))) pa_nil)) (blkOk_by (N := ["pen", "many", "signs", "stem", "at", "first", "way", "k"]) (sc := defScope sNames) (by decide +kernel)) (fun _ _ _ _ _ => pg_name (i := 7) scNames.nd rfl (Or.inl rfl)) (fun _ _ _ _ _ => pts_nil) (fun _ _ _ _ _ => (pe_ix ix_str (pv 2) (pe_call GT hr2 (by rfl) gT FT.kp bT .nil pass0 (pa_cons (pv 0) (pa_cons pe_int pa_nil))) (fun _ _ => rfl)))) pa_nil)))
      (pss_cons (ps_set (i := 4) scNames.nd rfl (Or.inr rfl) (pe_call GT hr2 (by rfl) gT FT.kp bT .nil pass0 (pa_cons (pv 0) (pa_cons (pe_op op_add (pe_callB call_len_str (by rfl) T.len PySem.boot_len (pa_cons (pv 3) pa_nil)) pe_int) pa_nil))))
      (pss_cons (ps_set (i := 5) scNames.nd rfl (Or.inr rfl) (pe_call GT hr2 (by rfl) gT FT.kp bT .nil pass0 (pa_cons (pv 0) (pa_cons pe_int pa_nil))))
      (pss_cons (ps_set (i := 6) scNames.nd rfl (Or.inl rfl) (pe_call GT hr2 (by rfl) gT FT.kp bT .nil pass0 (pa_cons (pv 0) (pa_cons pe_int pa_nil))))
      (pss_cons (ps_if (pt_cmpR op_eq (pv 6) pe_int (nomark _)) (pss_one (ps_ret (pe_lc (own := [("k", 7)]) (g := gName 7) (tt := tYes) rfl scNames.nd (pi_range1 (by rfl) T.range (pa_cons (pv 1) pa_nil)) (blkOk_by (N := ["pen", "many", "signs", "stem", "at", "first", "way", "k"]) (sc := defScope sNames) (by decide +kernel)) (fun _ _ _ _ _ => pg_name (i := 7) scNames.nd rfl (Or.inl rfl)) (fun _ _ _ _ _ => pts_nil) (fun _ _ _ _ _ => (pe_op op_mulS (pe_ix ix_str (pv 2) (pe_op op_mod (pe_op op_add (pv 5) (pe_op op_mul pe_int (pv 7))) pe_int) (fun _ _ => rfl)) (pe_op op_add pe_int (pe_op op_mod (pe_op op_add (pv 4) (pe_op op_mul pe_int (pv 7))) pe_int))))))) pss_nil)
      (C8.pss_cut (ps_if (PW.pt (pw_and (pt_cmpR op_eq (pv 6) pe_int (nomark _)) (pw_and1 (pt_cmpR op_lt (pv 1) pe_int (nomark _))))) (pss_one (ps_ret (pe_lc (own := [("k", 7)]) (g := gName 7) (tt := tYes) rfl scNames.nd (pi_range1 (by rfl) T.range (pa_cons (pv 1) pa_nil)) (blkOk_by (N := ["pen", "many", "signs", "stem", "at", "first", "way", "k"]) (sc := defScope sNames) (by decide +kernel)) (fun _ _ _ _ _ => pg_name (i := 7) scNames.nd rfl (Or.inl rfl)) (fun _ _ _ _ _ => pts_nil) (fun _ _ _ _ _ => (pe_op op_mulS (pe_ix ix_str (pv 2) (pv 5) (fun _ _ => rfl)) (pe_op op_add pe_int (pe_op op_mod (pe_op op_add (pv 4) (pv 7)) pe_int))))))) pss_nil)
      (pss_one (ps_ret (pe_lc (own := [("k", 7)]) (g := gName 7) (tt := tYes) rfl scNames.nd (pi_range1 (by rfl) T.range (pa_cons (pv 1) pa_nil)) (blkOk_by (N := ["pen", "many", "signs", "stem", "at", "first", "way", "k"]) (sc := defScope sNames) (by decide +kernel)) (fun _ _ _ _ _ => pg_name (i := 7) scNames.nd rfl (Or.inl rfl)) (fun _ _ _ _ _ => pts_nil) (fun _ _ _ _ _ => (pe_op op_add_str (pe_op op_add_str (pe_slice sl_str (pv 3) po_none (po_some (pv 4))) (pe_ix ix_str (pv 2) (pe_op op_mod (pe_op op_add (pv 5) (pe_op op_mul pe_int (pv 7))) pe_int) (fun _ _ => rfl))) (pe_slice sl_str (pv 3) (po_some (pv 4)) po_none))))))))))))), ?_⟩
    refine ⟨rfl, _, rfl, p, pc, 8, t, rfl, by decide, by decide, PC, by omega, fun m1 H1 m10 m11 b1' P1 => ?_⟩
    obtain ⟨c, rfl⟩ : ∃ c : Nat, m1 = (c : Int) := ⟨m1.toNat, by omega⟩
    refine ⟨_, rfl, by omega, by omega, fun D nD => ?_⟩
    have Dp : D ≠ p := pen_not P1.any nD
    have Dc : D ≠ pc := fun z => P1.at_c (by rw [← z]; exact nD)
    rw [Int.toNat_natCast]
    refine lc_it (walk_range (lo := 0) (n := c)) (fun i H2 => PenC H2 p pc (t + 1 + i) ∧ But p H1 H2 ∧ i ≤ c ∧ ∃ l : List Int, l.length = i ∧ (∀ x ∈ l, 0 ≤ x ∧ x < 26) ∧ H2 D = some (.lst ((l.map chr).map V.str))) ⟨P1.same (Same.upd nD) (by omega), But.of (Same.upd nD), Nat.zero_le _, [], rfl, (fun x hx => nomatch hx), upd_same⟩ (fun _ _ _ _ => trivial) ?_ ?_
    · rintro i x H2 H3 hi' ⟨P2, b2', _, l, hl, hd, hD⟩ ⟨rfl, rfl⟩
      refine ⟨rfl, ?_⟩
      refine ⟨_, rfl, _, rfl, p, pc, 26, _, rfl, by decide, by decide, P2, by omega, fun z H4 z0 z1 b4' P4 => ?_⟩
      have hD4 := b4' _ _ Dp hD
      refine ⟨sgS, z, _, rfl, rfl, by rw [sg_len]; decide, sg_at z0 z1, ?_⟩
      refine ⟨_, hD4, by rw [List.length_map, List.length_map, sizeLine_eq]; omega, P4.upd Dp Dc (by omega) _, ?_, by omega, l ++ [z], by rw [List.length_append, hl]; rfl, ?_, by rw [upd_same, List.map_append, List.map_append]; rfl⟩
      · intro c' o hn hc'
        rw [upd_ne (ne_of_none hc' nD)]
        exact b4' c' o hn (b2' c' o hn hc')
      · intro x hx
        rcases List.mem_append.mp hx with hx | hx
        · exact hd x hx
        · rw [List.mem_singleton.mp hx]; exact ⟨z0, z1⟩
    · rintro H2 ⟨P2, b2', _, l, hl, hd, hD⟩
      obtain ⟨j1, j2⟩ := join_chrs hd
      refine ⟨"", D, l.map chr, rfl, rfl, .inl (SqL.of hD), ?_, ?_⟩
      · have e1 : ((l.map chr).map (·.length)).sum = l.length := by
          rw [List.map_map]
          clear hD hd hl j1 j2
          induction l with
          | nil => rfl
          | cons x r ih => rw [List.map_cons, List.sum_cons, ih]; show 1 + r.length = _; rw [List.length_cons]; omega
        have e2 : (("" : String) : Str).length = 0 := by decide
        rw [e1, e2]; omega
      generalize Txt.join "" (l.map chr) = st at j1 j2
      refine ⟨_, rfl, _, rfl, st, rfl, by rw [sizeLine_eq]; omega, _, _, rfl, rfl, p, pc, _, _, rfl, by omega, small_int (by omega) (by omega), P2, by omega, fun a H3 a0 a1 b3' P3 => ?_⟩
      obtain ⟨a, rfl⟩ : ∃ c : Nat, a = (c : Int) := ⟨a.toNat, by omega⟩
      refine ⟨_, rfl, p, pc, 26, _, rfl, by decide, by decide, P3, by omega, fun f H4 f0 f1 b4' P4 => ?_⟩
      refine ⟨_, rfl, p, pc, 3, _, rfl, by decide, by decide, P4, by omega, fun wy H5 w0 w1 b5' P5 => ?_⟩
      have bt : But p H H5 := (((b1'.trans b2').trans b3').trans b4').trans b5'
      have P5 : PenC H5 p pc (t + 11) := P5.same (Same.refl _) (by omega)
      have free : ∀ q : Addr, H5 q = none → H q = none := fun q nq => by
        cases z : H q with
        | none => rfl
        | some o =>
          by_cases hq : q = p
          · subst hq; exact absurd nq P5.any.some
          · rw [bt q o hq z] at nq; cases nq
      have fin : ∀ (g : Nat → Str) (q : Addr) (H6 : Hp), NamesOk ((List.range m).map g) m → H5 q = none → Same H5 H6 → H6 q = some (.lst (((List.range m).map g).map V.str)) → Q (.ref q) H6 := fun g q H6 ok nq s6 h6 =>
        k q _ H6 ok (free q nq) (bt.trans (But.of s6)) (P5.same s6 (Nat.le_refl _)) h6
      have lps : ∀ (g : Nat → Str) (D : Addr) (i : Nat) (H6 : Hp), H5 D = none → i < m → Same H5 H6 → H6 D = some (.lst (((List.range i).map g).map V.str)) →
          ∃ acc, H6 D = some (.lst acc) ∧ acc.length < sizeLine ∧ Same H5 (upd H6 D (.lst (acc ++ [V.str (g i)]))) ∧ (upd H6 D (.lst (acc ++ [V.str (g i)]))) D = some (.lst (((List.range (i + 1)).map g).map V.str)) := fun g D i H6 nD hi s6 hD => by
        refine ⟨_, hD, by rw [List.length_map, List.length_map, List.length_range, sizeLine_eq]; omega, fun b o hb => ?_, by rw [upd_same, map_snoc]⟩
        rw [upd_ne (ne_of_none hb nD)]
        exact s6 b o hb
      refine ⟨_, rfl, rfl, _, rfl, ite2 (fun _ => ?_) (fun _ => ?_)⟩
      · -- way 0
        refine ⟨_, rfl, _, rfl, by omega, by omega, fun D2 nD2 => ?_⟩
        rw [Int.toNat_natCast]
        refine lc_it (walk_range (lo := 0) (n := m)) (fun i H6 => Same H5 H6 ∧ H6 D2 = some (.lst (((List.range i).map (nm0 f a)).map V.str))) ⟨Same.upd nD2, upd_same⟩ (fun _ _ _ _ => trivial) ?_ (fun H6 ⟨s6, h6⟩ => fin _ D2 H6 (names0 hm) nD2 s6 h6)
        rintro i x H6 H7 hi' ⟨s6, hD6⟩ ⟨rfl, hx⟩
        replace hx : x = V.int i := hx.trans (by show V.int (0 + (i : Int)) = _; rw [Int.zero_add])
        subst hx
        refine ⟨rfl, ?_⟩
        have r1 := md (x := f + 5 * i) (k := 26) (by decide)
        have r2 := md (x := (a : Int) + 3 * i) (k := 8) (by decide)
        refine ⟨_, rfl, _, rfl, _, rfl, _, _, rfl, rfl, .inl ⟨by omega, by omega⟩, _, _, rfl, rfl, _, _, rfl, rfl, (by show (0 : Int) < 26; decide), sgS, _, _, rfl, rfl, by rw [sg_len]; decide, sg_at r1.1 r1.2, ?_⟩
        refine ⟨_, rfl, _, rfl, _, _, rfl, rfl, .inl ⟨by omega, by omega⟩, _, _, rfl, rfl, _, _, rfl, rfl, (by show (0 : Int) < 8; decide), _, _, rfl, rfl, chr ((f + 5 * i) % 26), (1 + (((a : Int) + 3 * i) % 8).toNat), rfl, by simp only [V.int.injEq]; omega, by omega, by omega, by rw [chr_len]; decide, ?_⟩
        exact lps (nm0 f a) D2 i _ nD2 hi' s6 hD6
      refine ⟨fun σ H6 => σ = [some (.ref p), some (.int m), some (.str sgS), some (.str st), some (.int a), some (.int f), some (.int wy), none] ∧ H5 = H6, ?_, ?_⟩
      · refine ⟨_, rfl, rfl, _, rfl, ite2 (fun _ => ?_) (fun _ => iteF ⟨rfl, rfl⟩)⟩
        refine ⟨_, rfl, _, _, rfl, rfl, _, rfl, ite2 (fun _ => ?_) (fun _ => ⟨rfl, rfl⟩)⟩
        refine ⟨_, rfl, _, rfl, by omega, by omega, fun D2 nD2 => ?_⟩
        rw [Int.toNat_natCast]
        refine lc_it (walk_range (lo := 0) (n := m)) (fun i H6 => Same H5 H6 ∧ H6 D2 = some (.lst (((List.range i).map (nm1 f a)).map V.str))) ⟨Same.upd nD2, upd_same⟩ (fun _ _ _ _ => trivial) ?_ (fun H6 ⟨s6, h6⟩ => fin _ D2 H6 (names1 hm f0 f1) nD2 s6 h6)
        rintro i x H6 H7 hi' ⟨s6, hD6⟩ ⟨rfl, hx⟩
        replace hx : x = V.int i := hx.trans (by show V.int (0 + (i : Int)) = _; rw [Int.zero_add])
        subst hx
        refine ⟨rfl, ?_⟩
        have r2 := md (x := (a : Int) + i) (k := 8) (by decide)
        refine ⟨_, rfl, _, rfl, sgS, _, _, rfl, rfl, by rw [sg_len]; decide, sg_at f0 f1, ?_⟩
        refine ⟨_, rfl, _, rfl, _, _, rfl, rfl, _, _, rfl, rfl, (by show (0 : Int) < 8; decide), _, _, rfl, rfl, chr f, (1 + (((a : Int) + i) % 8).toNat), rfl, by simp only [V.int.injEq]; omega, by omega, by omega, by rw [chr_len]; decide, ?_⟩
        exact lps (nm1 f a) D2 i _ nD2 hi' s6 hD6
      · rintro σ H6 ⟨rfl, rfl⟩
        refine ⟨_, rfl, _, rfl, by omega, by omega, fun D2 nD2 => ?_⟩
        rw [Int.toNat_natCast]
        have hal : a ≤ st.length := by omega
        refine lc_it (walk_range (lo := 0) (n := m)) (fun i H6 => Same H5 H6 ∧ H6 D2 = some (.lst (((List.range i).map (nm2 st f a)).map V.str))) ⟨Same.upd nD2, upd_same⟩ (fun _ _ _ _ => trivial) ?_ (fun H6 ⟨s6, h6⟩ => fin _ D2 H6 (names2 hm hal j1 (by omega)) nD2 s6 h6)
        rintro i x H6 H7 hi' ⟨s6, hD6⟩ ⟨rfl, hx⟩
        replace hx : x = V.int i := hx.trans (by show V.int (0 + (i : Int)) = _; rw [Int.zero_add])
        subst hx
        refine ⟨rfl, ?_⟩
        have r1 := md (x := f + 5 * i) (k := 26) (by decide)
        have z1 : (cutS st none (some (a : Int))).length ≤ 7 := by rw [len_tl, tl_cut_to st hal, List.length_take]; omega
        have z2 : (cutS st (some (a : Int)) none).length ≤ 7 := by rw [len_tl, tl_cut_from st hal, List.length_drop, ← len_tl]; omega
        refine ⟨_, rfl, _, rfl, _, rfl, st, rfl, by rw [sizeLine_eq]; omega, ?_⟩
        refine ⟨_, rfl, _, rfl, _, rfl, _, _, rfl, rfl, .inl ⟨by omega, by omega⟩, _, _, rfl, rfl, _, _, rfl, rfl, (by show (0 : Int) < 26; decide), sgS, _, _, rfl, rfl, by rw [sg_len]; decide, sg_at r1.1 r1.2, ?_⟩
        refine ⟨_, chr ((f + 5 * i) % 26), rfl, rfl, by rw [chr_len, sizeLine_eq]; omega, ?_⟩
        refine ⟨_, rfl, _, rfl, _, rfl, st, rfl, by rw [sizeLine_eq]; omega, ?_⟩
        refine ⟨_, _, rfl, rfl, by rw [Str.length_append, chr_len, sizeLine_eq]; omega, ?_⟩
        exact lps (nm2 st f a) D2 i _ nD2 hi' s6 hD6
end
end My

namespace My
open PySem PySem.Spec PyProof.Rows L2
/-! ### sorted(d), d a dict with keys (int, str) -/
theorem perm_lift {α β : Type} {f : α → β} {l l' : List β} (h : l.Perm l') : ∀ m : List α, l' = m.map f → ∃ m' : List α, m'.Perm m ∧ l = m'.map f := by
  induction h with
  | nil => intro m e; cases m with | nil => exact ⟨[], .refl _, rfl⟩ | cons _ _ => cases e
  | cons x _ ih =>
    intro m e
    cases m with
    | nil => cases e
    | cons a r =>
      injection e with e1 e2
      obtain ⟨m', p, q⟩ := ih r e2
      exact ⟨a :: m', p.cons a, by rw [List.map_cons, ← q, e1]⟩
  | swap x y l =>
    intro m e
    cases m with
    | nil => cases e
    | cons a r =>
      cases r with
      | nil => cases e
      | cons b r =>
        injection e with e1 e2
        injection e2 with e2 e3
        exact ⟨b :: a :: r, .swap _ _ _, by rw [List.map_cons, List.map_cons, e1, e2, e3]⟩
  | trans _ _ ih1 ih2 =>
    intro m e
    obtain ⟨m1, p1, q1⟩ := ih2 m e
    obtain ⟨m2, p2, q2⟩ := ih1 m1 q1
    exact ⟨m2, p2.trans p1, q2⟩
def pk (q : Int × Str) : List Key := [.inl q.1, .inr q.2]
def pv2 (q : Int × Str) : List V := [.int q.1, .str q.2]
theorem pk_kv (q : Int × Str) : (pk q).map kV = pv2 q := rfl
def Tp (h : Heap) (b : Addr) (q : Int × Str) : Prop := ∃ t u o n, h.get? b = some o ∧ o.cls = .type "tuple" ∧ o.data = .seq #[.int q.1 t, .str q.2 u] n
theorem Tp.keep {h h' : Heap} {b : Addr} {q : Int × Str} (k : ∀ o, h.get? b = some o → h'.get? b = some o) (x : Tp h b q) : Tp h' b q := by
  obtain ⟨t, u, o, n, ho, r⟩ := x
  exact ⟨t, u, o, n, k o ho, r⟩
theorem tups_of {h : Heap} : ∀ {zs : List (Addr × Int × Str)}, (∀ z ∈ zs, Tp h z.1 z.2) → ∃ fs, TupsOf h PyProof.Rows.G.sh1 (zs.map fun z => Value.ref z.1) fs
  | [], _ => ⟨[], .nil⟩
  | z :: zs, hz => by
    obtain ⟨fs, hf⟩ := tups_of fun y hy => hz y (List.mem_cons_of_mem _ hy)
    obtain ⟨t, u, o, n, ho, hc, hd⟩ := hz z List.mem_cons_self
    exact ⟨_, .cons ⟨z.1, o, _, n, rfl, ho, hc, hd, rfl, fun _ => ⟨_, _, rfl⟩, fun e => absurd e (by decide)⟩ hf⟩
section
variable {X : Cx} {pins : List (Addr × Obj)} {σ : L2.St} {H : Hp} {s : Shared}
theorem tp_of (I : Inv X pins σ H s) {b : Addr} {q : Int × Str} (h : H b = some (.tup (pv2 q))) : Tp s.heap b q := by
  obtain ⟨_, its, r, o, ho, hc, n, hd⟩ := I.hok b _ h
  cases r with
  | cons r1 r2 =>
    cases r2 with
    | cons r2 r3 =>
      cases r3
      obtain ⟨t, rfl⟩ := r1
      obtain ⟨u, rfl⟩ := r2
      exact ⟨t, u, o, n, ho, hc, hd⟩
theorem paired_zs {H : Hp} : ∀ {kvs : List (List Key × V)} {xs : List (List Key × Addr × Value)} {ps : List (Int × Str)}, Paired (fun (p : List Key × V) (q : List Key × Addr × Value) => p.1 = q.1 ∧ H q.2.1 = some (.tup (p.1.map kV)) ∧ RelV p.2 q.2.2) kvs xs → kvs.map (·.1) = ps.map pk →
    ∃ zs : List (Addr × Int × Str), zs.map (·.2) = ps ∧ (∀ z ∈ zs, H z.1 = some (.tup (pv2 z.2))) ∧ zs.map (fun z => Value.ref z.1) = xs.map fun q => Value.ref q.2.1
  | _, _, [], .nil, _ => ⟨[], rfl, (fun _ h => nomatch h), rfl⟩
  | _, _, _ :: _, .nil, e => nomatch e
  | _, _, [], .cons _ _, e => nomatch e
  | (k, v) :: kvs, x :: xs, q :: ps, .cons ⟨h1, h2, _⟩ t, e => by
    injection e with e1 e2
    obtain ⟨zs, g1, g2, g3⟩ := paired_zs t e2
    have e1' : k = pk q := e1
    subst e1'
    refine ⟨(x.2.1, q) :: zs, by rw [List.map_cons, g1], fun z hz => ?_, by rw [List.map_cons, List.map_cons, g3]⟩
    rcases List.mem_cons.mp hz with rfl | hz
    · exact h2
    · exact g2 z hz
def rSortP : List V → Hp → VK → Prop := fun xs H Q => ∃ (a : Addr) (kvs : List (List Key × V)) (ps : List (Int × Str)), xs = [.ref a] ∧ H a = some (.dT kvs) ∧ kvs.map (·.1) = ps.map pk ∧
    ∀ (zs : List (Addr × Int × Str)) (p : Addr), (zs.map (·.2)).Perm ps → (∀ z ∈ zs, H z.1 = some (.tup (pv2 z.2))) → H p = none → Q (.ref p) (upd H p (.lst (zs.map fun z => V.ref z.1)))
theorem vals_refs : ∀ zs : List (Addr × Int × Str), Vals (zs.map fun z => V.ref z.1) (zs.map fun z => Value.ref z.1)
  | [] => .nil
  | _ :: zs => .cons rfl (vals_refs zs)
theorem call_sortedDT (hcalm : X.calm = true) : CallR X (.builtin "sorted") rSortP := by
  intro pins s σ H xs us Q I r q
  obtain ⟨a, kvs, ps, ex, hd, hks, q⟩ := q
  subst ex
  obtain ⟨u, eu, rx⟩ := vals1 r
  subst eu
  cases rx
  obtain ⟨z, lo, xs, pr, o, es, ep, ho, hx, hdat, hes, nd⟩ := I.hok a _ hd
  obtain ⟨zs, y1, y2, y3⟩ := paired_zs pr hks
  have hlx : es.size = zs.length := by
    rw [← Array.length_toList, hes, List.length_map]
    have := congrArg List.length y3
    rw [List.length_map, List.length_map] at this
    exact this.symm
  have hlk : zs.length = kvs.length := by
    have e1 := congrArg List.length y1
    have e2 := congrArg List.length hks
    rw [List.length_map] at e1
    rw [List.length_map, List.length_map] at e2
    omega
  have h16 : es.size ≤ sizeLine := by rw [hlx, hlk]; exact z
  refine Calls.call_function_entry PyProof.Rows.kind_sorted PyProof.Rows.plain_sorted PyProof.Rows.entry_sorted (PyProof.Rows.args_sorted1 _) ?_
  unfold Builtin.«sorted»
  refine wpAny_bind (m := checkCount "sorted" 1 1 _) (wpAny_pure ?_)
  refine wpAny_bind (PySem.W.kdu_collect (A := X.A.in1) (KdlSrc.rawDict (es := es) (ep := ep) lo) (I.ok.hd hcalm) ⟨o, ho, hx, hdat⟩ h16 fun h' tk acc hk hacc => ?_)
  have hacc2 : acc.toList = zs.map fun z => Value.ref z.1 := by
    refine List.ext_getElem? fun j => ?_
    rw [y3]
    have e0 : (es.toList)[j]? = (xs.map (entryOfKey (tupleKind (mixKind X.prog X.w))))[j]? := by rw [hes]
    rw [Array.getElem?_toList, List.getElem?_map] at e0
    rw [Array.getElem?_toList, List.getElem?_map]
    cases hj : acc[j]? with
    | none =>
      have : acc.size ≤ j := Array.getElem?_eq_none_iff.mp hj
      rw [hacc.1] at this
      rw [Array.getElem?_eq_none this] at e0
      cases hxj : xs[j]? with
      | none => rfl
      | some _ => rw [hxj] at e0; cases e0
    | some v =>
      obtain ⟨hi, hv⟩ := hacc.2 j v hj
      rw [Array.getElem?_eq_getElem hi] at e0
      cases hxj : xs[j]? with
      | none => rw [hxj] at e0; cases e0
      | some w' =>
        rw [hxj] at e0
        have e1 := Option.some.inj e0
        rw [hv, e1]; rfl
  have hal : acc.toList.length = zs.length := by rw [hacc2, List.length_map]
  have I1 : Inv X pins σ H { s with heap := h', toks := tk } := I.kept hk
  refine wpAny_bind (wpAny_newList ?_ (by rw [hal, hlk]; exact z))
  have hoL : (h'.push (seqObj "list" acc.toList.toArray 0)).get? h'.objs.size = some (seqObj "list" acc.toList.toArray 0) := Heap.get?_push_size _ rfl
  show wpAny _ _ _ _ _ { s with heap := h'.push (seqObj "list" acc.toList.toArray 0), toks := tk }
  have hT : ∀ z ∈ zs, Tp (h'.push (seqObj "list" acc.toList.toArray 0)) z.1 z.2 := fun z hz => Tp.keep (fun o e => Heap.get?_push_of_some _ e) (tp_of I1 (y2 z hz))
  obtain ⟨fs, hfs⟩ := tups_of hT
  rw [← hacc2] at hfs
  refine wpAny_bind (wpAny_holding (wpAny_call_entry PyProof.Rows.slot_list_sort ⟨_, hoL, rfl⟩ PyProof.Rows.entry_list_sort
    (PyProof.Rows.G.list_sort_tups (shape := PyProof.Rows.G.sh1) (fs := fs) (s := { s with heap := h'.push (seqObj "list" acc.toList.toArray 0), toks := tk }) hoL hfs (fun v hv => ?_) (by rw [hal, hlk]; exact z) fun st' hp hs _ => ⟨_, rfl, ?_⟩)
    (PyProof.Rows.args_list_sort _)))
  · rw [hacc2] at hv
    obtain ⟨z, hz, rfl⟩ := List.mem_map.mp hv
    obtain ⟨t, u, o, n, ho, hc, hd⟩ := hT z hz
    exact ⟨_, PyProof.Rows.G.tupKeyC_of ho hc hd (PyProof.Rows.G.two_items rfl)⟩
  have hpm : ((arrOf st').map (·.2)).toList.Perm (zs.map fun z => Value.ref z.1) := by
    have e := Array.perm_iff_toList_perm.mp hp
    rw [pairsOf_toList] at e
    have e2 := e.map (·.2)
    rw [hacc2] at e2
    rw [Array.toList_map]
    refine e2.trans (List.Perm.of_eq ?_)
    rw [List.map_snd_zip (Nat.le_refl _)]
  obtain ⟨zs', g1, g2⟩ := perm_lift hpm zs rfl
  obtain ⟨e', he'⟩ := PyProof.Rows.sortedHeap_at (vs := acc.toList) (out := (arrOf st').map (·.2)) hoL
  have hlen : (zs'.map fun z => V.ref z.1).length ≤ sizeLine := by
    rw [List.length_map, g1.length_eq, hlk]
    exact z
  refine wpAny_pure ⟨_, rfl, .ref h'.objs.size, upd H h'.objs.size (.lst (zs'.map fun z => V.ref z.1)), I1.laid (t' := tk) (fun b u e => ?_) (Nat.le_refl _)
    (show ObjOk X.prog X.w _ _ _ (.lst (zs'.map fun z => V.ref z.1)) from ⟨hlen, ((arrOf st').map (·.2)).toList, e', by rw [g2]; exact vals_refs zs', by rw [Array.toArray_toList]; exact he'⟩), rfl, q zs' _ ?_ (fun z hz => y2 z (g1.mem_iff.mp hz)) (I1.hok.fresh (Nat.le_refl _))⟩
  · have hb : b < h'.objs.size := Heap.lt_size e
    rw [PyProof.Rows.sortedHeap_old (Nat.ne_of_lt hb) (by rw [size_push']; exact Nat.lt_succ_of_lt hb)]
    exact Heap.get?_push_of_some _ e
  · rw [← y1]; exact g1.map _
end
end My

namespace My
open PySem PySem.Spec PyProof.Rows L2
/-! ### dict(l), l a list of pairs ((int, str), True) -/
def mergeT (kvs more : List (List Key × V)) : List (List Key × V) := more.foldl (fun acc kv => putK acc kv.1 kv.2) kvs
structure KeysIn (S : Int × Str → Prop) (n : Nat) (kvs : List (List Key × V)) : Prop where
  ex : ∃ ps : List (Int × Str), kvs.map (·.1) = ps.map pk ∧ (∀ q ∈ ps, S q) ∧ ps.length ≤ n
theorem KeysIn.nil {S : Int × Str → Prop} : KeysIn S 0 [] := ⟨[], rfl, (fun _ h => nomatch h), Nat.le_refl _⟩
theorem KeysIn.put {S : Int × Str → Prop} {n : Nat} {kvs : List (List Key × V)} (h : KeysIn S n kvs) {q : Int × Str} (hq : S q) (v : V) : KeysIn S (n + 1) (putK kvs (pk q) v) := by
  obtain ⟨ps, h1, h2, h3⟩ := h.ex
  unfold putK
  by_cases c : (kvs.any fun kv => decide (kv.1 = pk q)) = true
  · rw [if_pos c]
    refine ⟨ps, ?_, h2, by omega⟩
    rw [← h1, List.map_map]
    refine List.map_congr_left fun kv _ => ?_
    show (if kv.1 = pk q then (kv.1, v) else kv).1 = kv.1
    by_cases e : kv.1 = pk q
    · rw [if_pos e]
    · rw [if_neg e]
  · rw [if_neg c]
    refine ⟨ps ++ [q], by rw [List.map_append, List.map_append, h1]; rfl, fun x hx => ?_, by rw [List.length_append]; simpa using h3⟩
    rcases List.mem_append.mp hx with hx | hx
    · exact h2 x hx
    · rw [List.mem_singleton.mp hx]; exact hq
theorem KeysIn.merge {S : Int × Str → Prop} (v : V) : ∀ {L : List (Int × Str)} {n : Nat} {kvs : List (List Key × V)}, KeysIn S n kvs → (∀ q ∈ L, S q) → KeysIn S (n + L.length) (mergeT kvs (L.map fun q => (pk q, v)))
  | [], n, kvs, h, _ => h
  | q :: L, n, kvs, h, hL => by
    have := KeysIn.merge v (L := L) (h.put (hL q List.mem_cons_self) v) fun x hx => hL x (List.mem_cons_of_mem _ hx)
    rw [List.length_cons, show n + (L.length + 1) = n + 1 + L.length by omega]
    exact this
theorem KeysIn.len {S : Int × Str → Prop} {n : Nat} {kvs : List (List Key × V)} (h : KeysIn S n kvs) : kvs.length ≤ n := by
  obtain ⟨ps, h1, _, h3⟩ := h.ex
  have := congrArg List.length h1
  rw [List.length_map, List.length_map] at this
  omega
theorem KT.merge {H : Hp} : ∀ {zs : List (Addr × Addr × (Int × Str))} {kvs : List (List Key × V)} {xs : List (List Key × Addr × Value)}, KT H kvs xs → (∀ z ∈ zs, H z.2.1 = some (.tup (pv2 z.2.2))) →
    KT H (mergeT kvs (zs.map fun z => (pk z.2.2, V.bl true))) (PySem.storedAllH xs (zs.map fun z => (pk z.2.2, z.2.1, Value.bool true)))
  | [], _, _, h, _ => h
  | z :: zs, kvs, xs, h, hz => KT.merge (zs := zs) (KT.put h (pk z.2.2) (hz z List.mem_cons_self) (show RelV (.bl true) (.bool true) from rfl)) fun y hy => hz y (List.mem_cons_of_mem _ hy)
def rDictTP (K : PySem.W.Frag) : List V → Hp → VK → Prop := fun xs H Q => ∃ (a : Addr) (zs : List (Addr × Addr × (Int × Str))), xs = [.ref a] ∧ SqL K H a (zs.map fun z => V.ref z.1) ∧ (∀ z ∈ zs, H z.1 = some (.tup [.ref z.2.1, .bl true]) ∧ H z.2.1 = some (.tup (pv2 z.2.2))) ∧ zs.length ≤ 1000 ∧
  ∀ p, H p = none → Q (.ref p) (upd H p (.dT (mergeT [] (zs.map fun z => (pk z.2.2, .bl true)))))
section
variable {X : Cx}
theorem call_dictTP (hcalm : X.calm = true) (hu : X.A.units + 64 < cLine) : CallR X (.type "dict") (rDictTP X.K) := by
  intro pins s σ H xs us Q I r q
  obtain ⟨a, zs, ex, hq, hz, hz0, q⟩ := q
  subst ex
  obtain ⟨u, eu, rx⟩ := vals1 r
  subst eu
  cases rx
  obtain ⟨its, rv, pl, hsz⟩ := I.list hq
  obtain ⟨o, n, ho, hc, hd, hdat⟩ := pl
  have ei : its = zs.map fun z => Value.ref z.1 := by
    have := refs_at (ps := zs.map (·.1)) (us := its) (by rw [List.map_map]; exact rv)
    rw [this, List.map_map]; rfl
  subst ei
  have hnew : ∀ b, H b ≠ none → b ≠ s.heap.objs.size := fun b h e => h (by rw [e]; exact I.hok.fresh (Nat.le_refl _))
  refine PySem.call_dict_pairsH (knd := tupleKind (mixKind X.prog X.w)) (ps := zs.map fun z => (pk z.2.2, z.2.1, Value.bool true))
    (PySem.PairArg.list a (zs.map fun z => Value.ref z.1).toArray (fun j => ((zs[j]?).map (·.1)).getD 0) (zs.map fun z => (Value.ref z.2.1, Value.bool true))) (I.ok.hd hcalm) (show X.A.in1.in1.units < cLine by show X.A.units + 1 + 1 < cLine; omega)
    ⟨⟨o, n, ho, hc, hd, hdat⟩, ?_⟩ ⟨by rw [List.length_map, List.length_map], fun i key v e => ?_⟩ (fun h' hk x hx => ?_) (by rw [List.length_map, sizeLine_eq]; omega) fun h' tk hd' hk => ?_
  · refine ⟨by simp, fun j k v e => ?_⟩
    rw [List.getElem?_map] at e
    cases ez : zs[j]? with
    | none => rw [ez] at e; cases e
    | some z =>
      rw [ez] at e
      have e := Option.some.inj e
      cases e
      refine ⟨by simp [ez], .inl ?_⟩
      obtain ⟨_, its, rv2, o2, ho2, hc2, n2, hd2⟩ := I.hok _ _ (hz z (List.mem_of_getElem? ez)).1
      obtain ⟨x1, x2, ei2, r1, r2⟩ := vals2 rv2
      subst ei2
      cases r1; cases r2
      exact ⟨o2, (by show s.heap.get? (((zs[j]?).map (·.1)).getD 0) = _; rw [ez]; exact ho2), hc2, n2, hd2⟩
  · have e' : (zs.map fun z => (Value.ref z.2.1, Value.bool true))[i]? = some (key, v) := e
    rw [List.getElem?_map] at e'
    cases ez : zs[i]? with
    | none => rw [ez] at e'; cases e'
    | some z =>
      rw [ez] at e'
      have e' := Option.some.inj e'
      cases e'
      exact ⟨pk z.2.2, z.2.1, by rw [List.getElem?_map, ez]; rfl, rfl⟩
  · obtain ⟨z, hzm, rfl⟩ := List.mem_map.mp hx
    have h2 := (hz z hzm).2
    obtain ⟨o3, its3, n3, g1, g2⟩ := key_of (P := X.prog) (w := X.w) (ks := pk z.2.2) I.hok h2
    exact ⟨o3, its3, n3, hk _ _ (hnew _ (by rw [h2]; exact fun y => nomatch y)) (by simp) g1, g2⟩
  · obtain ⟨od, es, ep, hod, h2, h3, h4, _, h5⟩ := hd'
    have hm : (s.heap.objs.size == sysModules) = false := beq_eq_false_iff_ne.mpr (Nat.ne_of_gt I.big)
    have kin := (KeysIn.nil (S := fun _ => True)).merge (.bl true) (L := zs.map fun z => z.2.2) fun q hq => trivial
    rw [List.map_map] at kin
    have hlen : (mergeT [] (zs.map fun z => (pk z.2.2, V.bl true))).length ≤ sizeLine := by
      have := kin.len
      rw [List.length_map] at this
      rw [sizeLine_eq]
      refine Nat.le_trans this (by omega)
    have rel : KT H (mergeT [] (zs.map fun z => (pk z.2.2, V.bl true))) (PySem.storedAllH [] (zs.map fun z => (pk z.2.2, z.2.1, Value.bool true))) := KT.merge .nil fun z hzm => (hz z hzm).2
    refine ⟨.ref s.heap.objs.size, upd H s.heap.objs.size (.dT (mergeT [] (zs.map fun z => (pk z.2.2, V.bl true)))), I.laid (t' := tk) (fun b o e => hk b o (by simp) e) (Nat.le_refl _) ⟨hlen, hm, _, rel.keeps fun c ys ec => ?_, od, es, ep, hod, h2, h3, h4, h5⟩, rfl, q _ (I.hok.fresh (Nat.le_refl _))⟩
    rw [upd_ne (hnew c (by rw [ec]; exact fun y => nomatch y))]
    exact ec
end
end My

namespace My
open PySem PySem.Spec PyProof.Rows L2
abbrev sRow : Stmt := topS 15
/-! ### the pen moves, what stands grows, tuples may come to stand -/
def NoTup (o : Option HO) : Prop := o ≠ none ∧ ∀ ys, o ≠ some (.tup ys)
def IsL (o : Option HO) : Prop := ∃ xs, o = some (.lst xs)
structure Mw (p : Addr) (G H G' H' : Hp) : Prop where
  gg : Same G G'
  gh : Same G' H'
  bt : But p H H'
  pl : IsL (H p)
  pl' : IsL (H' p)
  old : ∀ c, NoTup (H c) → G' c = G c
theorem IsL.nt {o : Option HO} (h : IsL o) : NoTup o := by
  obtain ⟨xs, rfl⟩ := h
  exact ⟨(fun z => nomatch z), fun ys z => nomatch z⟩
theorem PenC.isL {H : Hp} {p pc : Addr} {t : Nat} (P : PenC H p pc t) : IsL (H p) := by
  obtain ⟨cells, x, y, h, _⟩ := P.ex
  exact ⟨_, h⟩
theorem NoTup.but {p c : Addr} {H H' : Hp} (b : But p H H') (l : IsL (H' p)) (h : NoTup (H c)) : NoTup (H' c) := by
  by_cases e : c = p
  · rw [e]; exact l.nt
  · cases q : H c with
    | none => exact absurd q h.1
    | some o => rw [b c o e q, ← q]; exact h
theorem Mw.trans {p : Addr} {G H G1 H1 G2 H2 : Hp} (a : Mw p G H G1 H1) (b : Mw p G1 H1 G2 H2) : Mw p G H G2 H2 :=
  ⟨a.gg.trans b.gg, b.gh, a.bt.trans b.bt, a.pl, b.pl', fun c h => by rw [b.old c (h.but a.bt a.pl'), a.old c h]⟩
theorem Mw.gp {p : Addr} {G H G1 H1 : Hp} (a : Mw p G H G1 H1) (n : G p = none) : G1 p = none := by rw [a.old p a.pl.nt]; exact n
theorem Mw.keep {p c : Addr} {G H G1 H1 : Hp} (a : Mw p G H G1 H1) (h : IsL (H c)) (n : G c = none) : G1 c = none := by rw [a.old c h.nt]; exact n
theorem Mw.take {p pc : Addr} {G H H1 : Hp} {t u : Nat} (e : Same G H) (n : G p = none) (P : PenC H p pc t) (P1 : PenC H1 p pc u) (b : But p H H1) : Mw p G H G H1 :=
  ⟨Same.refl G, same_but e n b, b, P.isL, P1.isL, fun _ _ => rfl⟩
theorem Mw.nw {p pc : Addr} {G H G1 H1 : Hp} {t : Nat} (m : Nw G H G1 H1) (P : PenC H p pc t) : Mw p G H G1 H1 := by
  obtain ⟨xs, h⟩ := P.isL
  exact ⟨m.gg, m.gh, But.of m.hh, ⟨xs, h⟩, ⟨xs, m.hh _ _ h⟩, fun c hc => m.old c hc.1⟩
theorem Mw.more {p : Addr} {G H G1 H1 H2 : Hp} (m : Mw p G H G1 H1) (s : Same H1 H2) : Mw p G H G1 H2 := by
  obtain ⟨xs, h⟩ := m.pl'
  exact ⟨m.gg, m.gh.trans s, m.bt.trans (But.of s), m.pl, ⟨xs, s _ _ h⟩, m.old⟩
def alls (G H : Hp) : Hp := fun c => match H c with | some (.tup ys) => some (.tup ys) | _ => G c
theorem alls_tup {G H : Hp} {c : Addr} {ys : List V} (h : H c = some (.tup ys)) : alls G H c = some (.tup ys) := by unfold alls; rw [h]
theorem alls_no {G H : Hp} {c : Addr} (h : ∀ ys, H c ≠ some (.tup ys)) : alls G H c = G c := by
  unfold alls
  split
  · rename_i ys e; exact absurd e (h ys)
  · rfl
theorem alls_gg {G H : Hp} (e : Same G H) : Same G (alls G H) := fun c o h => by
  have h1 := e c o h
  cases o with
  | tup ys => exact alls_tup h1
  | _ => rw [alls_no (fun ys z => by rw [h1] at z; cases z)]; exact h
theorem alls_gh {G H : Hp} (e : Same G H) : Same (alls G H) H := fun c o h => by
  by_cases q : ∃ ys, H c = some (.tup ys)
  · obtain ⟨ys, hy⟩ := q
    rw [alls_tup hy] at h
    rw [hy]; exact h
  · rw [alls_no (fun ys z => q ⟨ys, z⟩)] at h
    exact e c o h
theorem Mw.all {p : Addr} {G H G1 H1 : Hp} (m : Mw p G H G1 H1) : Mw p G H (alls G1 H1) H1 :=
  ⟨m.gg.trans (alls_gg m.gh), alls_gh m.gh, m.bt, m.pl, m.pl', fun c h => by rw [alls_no (h.but m.bt m.pl').2, m.old c h]⟩
/-! ### rows -/
def rowD (row : List (Int × Str)) : PyData := .tuple (row.map fun q => .tuple [.int q.1, .str q.2])
def InB (b : Int) (ns : List Str) (q : Int × Str) : Prop := 0 ≤ q.1 ∧ q.1 < b ∧ q.2 ∈ ns
structure RowIn (b : Int) (ns : List Str) (most : Nat) (row : List (Int × Str)) : Prop where
  mem : ∀ q ∈ row, InB b ns q
  len : row.length ≤ most
def spRow (K : PySem.W.Frag) : Sp := fun vs H Q _ => ∃ (p pc ln : Addr) (b : Int) (ns : List Str) (most t : Nat) (G : Hp), vs = [.ref p, .int b, .ref ln, .int most] ∧ 2 ≤ b ∧ b ≤ 10 ∧ ns ≠ [] ∧ ns.length ≤ 8 ∧ most ≤ 12 ∧ PenC H p pc t ∧ t + 40 < 2 ^ 29 ∧
  Same G H ∧ G p = none ∧ ln ≠ p ∧ H ln = some (.lst (ns.map V.str)) ∧
  ∀ (v : V) (row : List (Int × Str)) (G' H' : Hp), Mw p G H G' H' → PenC H' p pc (t + 1 + 2 * most) → Dq K G' v (rowD row) → RowIn b ns most row → Q v H'
structure TxR (mg : Str → Option Value) : Prop where
  len : mg "len" = none
  range : mg "range" = none
  tuple : mg "tuple" = none
  sorted : mg "sorted" = none
theorem dq_pair2 {K : PySem.W.Frag} {G : Hp} {a : Addr} {q : Int × Str} (h : G a = some (.tup (pv2 q))) : Dq K G (.ref a) (.tuple [.int q.1, .str q.2]) := .tup h (.cons (.int _) (.cons (.str _) .nil))
theorem dq_zs {K : PySem.W.Frag} {G : Hp} : ∀ {zs : List (Addr × Int × Str)}, (∀ z ∈ zs, G z.1 = some (.tup (pv2 z.2))) → DqAll K G (zs.map fun z => V.ref z.1) ((zs.map (·.2)).map fun q => .tuple [.int q.1, .str q.2])
  | [], _ => .nil
  | z :: zs, h => .cons (dq_pair2 (h z List.mem_cons_self)) (dq_zs fun y hy => h y (List.mem_cons_of_mem _ hy))
theorem str_at {ns : List Str} {i : Int} (h0 : 0 ≤ i) (h1 : i < ns.length) : ∃ x : Str, x ∈ ns ∧ atI (ns.map V.str) i = some (.str x) := by
  obtain ⟨j, rfl⟩ : ∃ j : Nat, i = (j : Int) := ⟨i.toNat, by omega⟩
  have hj : j < ns.length := by omega
  exact ⟨ns[j], List.getElem_mem hj, atI_nat (by rw [List.getElem?_map, List.getElem?_eq_getElem hj]; rfl)⟩
section
variable {P : Program} {w : World} {K : PySem.W.Frag} {mg : Str → Option Value} {base : Heap}
theorem scRow : FnScope ["pen", "base", "names", "most", "found", "turn"] ["pen", "base", "names", "most"] (defScope sRow) := ⟨rfl, rfl, rfl, by decide +kernel, rfl, by decide +kernel, by decide +kernel⟩
theorem ok_row {f fT : Addr} {fd fdT : FuncData} (F : Fun K "_law_row" "_law_row" sRow f fd) (T : TxR mg)
    (FT : Fun K "_law_take" "_law_take" sTake fT fdT) (GT : FnOk P w K mg base CX0 2 fT fdT ["pen", "many"] spTakeC) (bT : Binds K fdT ["pen", "many"] []) (gT : mg "_law_take" = some (.ref fT)) :
    FnOk P w K mg base CX0 3 f fd ["pen", "base", "names", "most"] (spRow K) := by
  refine F.ok scRow (fun vs H Q E h => ?_) (fun cdv A outer s H vs Q E hr h => ?_)
  · obtain ⟨p, pc, ln, b, ns, most, t, G, rfl, _⟩ := h
    rfl
  · obtain ⟨p, pc, ln, b, ns, most, t, G, rfl, b0, b1, n0, n8, hmo, PC, ht, e, np, lp, hln, k⟩ := h
    have hr2 := hr
    have hu := Nat.lt_trans (Nat.add_lt_add_left (show 1 < 64 by decide) _) hr.units
    have nl0 : 0 < ns.length := List.length_pos_iff.mpr n0
    refine ⟨_, (pss_cons (ps_set (i := 4) scRow.nd rfl (Or.inl rfl) pe_dnewT)
      (pss_cons (ps_for PassesOwn.never rfl (pi_range1 (by rfl) T.range (pa_cons (pe_call GT hr2 (by rfl) gT FT.kp bT .nil pass0 (pa_cons (pv 0) (pa_cons (pe_op op_add (pv 3) pe_int) pa_nil))) pa_nil)) (pg_name (i := 5) scRow.nd rfl (Or.inl rfl)) (pss_one (ps_dput hu (pv 4) (pe_tup (pa_cons (pe_call GT hr2 (by rfl) gT FT.kp bT .nil pass0 (pa_cons (pv 0) (pa_cons (pv 1) pa_nil))) (pa_cons (pe_ix ix_list (pv 2) (pe_call GT hr2 (by rfl) gT FT.kp bT .nil pass0 (pa_cons (pv 0) (pa_cons (pe_callB call_len_seq (by rfl) T.len PySem.boot_len (pa_cons (pv 2) pa_nil)) pa_nil))) (fun _ _ => rfl)) pa_nil))) pe_bl rfl)))
      (pss_one (ps_ret (pe_callTy call_tuple_of (by rfl) T.tuple boot_tuple (pa_cons (pe_callB (call_sortedDT rfl) (by rfl) T.sorted boot_sorted (pa_cons (pv 4) pa_nil)) pa_nil)))))), ?_⟩
    intro d nd
    have dp : d ≠ p := pen_not PC.any nd
    have dc : d ≠ pc := fun z => PC.at_c (by rw [← z]; exact nd)
    have dl : d ≠ ln := fun z => by rw [← z, nd] at hln; cases hln
    have P0 := PC.upd dp dc (Nat.le_refl _) (.dT [])
    refine ⟨_, rfl, _, rfl, _, _, rfl, rfl, p, pc, _, t, rfl, by omega, small_int (by omega) (by omega), P0, by omega, fun m H1 m0 m1 b1' P1 => ?_⟩
    obtain ⟨c, rfl⟩ : ∃ c : Nat, m = (c : Int) := ⟨m.toNat, by omega⟩
    refine ⟨_, rfl, by omega, by omega, ?_⟩
    rw [Int.toNat_natCast]
    refine for_it (walk_range (lo := 0) (n := c)) (fun i σ H2 => (∃ y : Option V, σ = [some (.ref p), some (.int b), some (.ref ln), some (.int most), some (.ref d), y]) ∧ PenC H2 p pc (t + 1 + 2 * i) ∧ But p H H2 ∧ i ≤ c ∧ ∃ kvs, H2 d = some (.dT kvs) ∧ KeysIn (InB b ns) i kvs)
      ⟨⟨none, rfl⟩, P1, (But.of (Same.upd nd)).trans b1', Nat.zero_le _, [], b1' _ _ dp upd_same, .nil⟩ (fun _ _ _ _ _ => trivial) ?_ ?_
    · rintro i x σ H2 H3 hi' ⟨⟨y, rfl⟩, P2, bt2, _, kvs, hd, hk⟩ ⟨rfl, rfl⟩
      refine ⟨_, rfl, _, rfl, _, rfl, p, pc, b, _, rfl, by omega, small_int (by omega) (by omega), P2, by omega, fun dg H4 d0 d1 b4 P4 => ?_⟩
      have ln4 := b4 _ _ lp (bt2 _ _ lp hln)
      refine ⟨_, rfl, _, rfl, _, rfl, ln, _, rfl, .inl (SqL.of ln4), p, pc, _, _, rfl, by rw [List.length_map]; omega, by rw [List.length_map]; exact small_nat (by omega), P4, by omega, fun ix H5 i0 i1 b5 P5 => ?_⟩
      rw [List.length_map] at i1
      obtain ⟨x, hx, hxa⟩ := str_at i0 i1
      have ln5 := b5 _ _ lp ln4
      refine ⟨ln, _, _, _, rfl, rfl, SqL.of ln5, hxa, (by show 2 ≤ sizeLine; decide), fun q nq => ?_⟩
      have hd5 := b5 _ _ dp (b4 _ _ dp hd)
      have qd : d ≠ q := ne_of_none hd5 nq
      have qp : q ≠ p := pen_not P5.any nq
      have qc : q ≠ pc := fun z => P5.at_c (by rw [← z]; exact nq)
      refine ⟨d, _, rfl, DPut.t (k := pk (dg, x)) (by rw [upd_ne qd]; exact hd5) upd_same (by have := hk.len; rw [sizeLine_eq]; omega), ⟨_, rfl⟩, (P5.upd qp qc (Nat.le_refl _) _).upd dp dc (by omega) _, ?_, by omega, _, upd_same, hk.put (q := (dg, x)) ⟨d0, d1, hx⟩ _⟩
      intro z o hz ho
      have hzd : z ≠ d := ne_of_none ho nd
      have h5 := b5 z o hz (b4 z o hz (bt2 z o hz ho))
      rw [upd_ne hzd, upd_ne (ne_of_none h5 nq)]
      exact h5
    · rintro σ H2 ⟨⟨y, rfl⟩, P2, bt2, _, kvs, hd, hk⟩
      obtain ⟨ps, k1, k2, k3⟩ := hk.ex
      refine ⟨_, rfl, d, kvs, ps, rfl, hd, k1, fun zs l hp hz nl => ?_⟩
      refine ⟨l, _, rfl, .inl ⟨SqL.of upd_same, fun q nq => ?_⟩⟩
      have m0 : Mw p G H G H2 := Mw.take e np PC P2 bt2
      have m1 := (m0.all).more (Same.upd nl (o := .lst (zs.map fun z => V.ref z.1)))
      have lq : l ≠ q := ne_of_none upd_same nq
      have m2 := m1.trans (Mw.nw (Nw.mk1 m1.gh nq (.tup (zs.map fun z => V.ref z.1))) (P2.same (Same.upd nl) (Nat.le_refl _)))
      refine k (.ref q) (zs.map (·.2)) _ _ m2 ((P2.same (Same.upd nl) (Nat.le_refl _)).same (Same.upd nq) (by omega)) ?_ ⟨fun x hx => k2 x (hp.mem_iff.mp hx), by rw [hp.length_eq]; omega⟩
      refine .tup upd_same (dq_zs fun z hzm => ?_)
      rw [upd_ne (fun w' => ?_)]
      · exact alls_tup (hz z hzm)
      · have h1 := (Same.upd nl (o := .lst (zs.map fun z => V.ref z.1))) _ _ (hz z hzm)
        rw [w', nq] at h1
        cases h1
end
end My

namespace My
open PySem PySem.Spec PyProof.Rows L2
/-! ### displays, by what stays -/
section
variable {X : Cx} {es : List Expr} {t : TA} {pos : Pos}
theorem paMono (h : PA X es t) : PA X es (fun σ H R => ∃ S : List V → Hp → Prop, t σ H S ∧ ∀ vs H1, S vs H1 → R vs H1) :=
  ⟨fun pos pins s σ H Q I ⟨S, h1, h2⟩ => thn (h.run pos pins s σ H S I h1) fun us s1 ⟨vs, H1, I1, r, q⟩ => ⟨vs, H1, I1, r, h2 _ _ q⟩⟩
def tTupS (t : TA) : TE := fun σ H Q => t σ H fun vs H1 => vs.length ≤ sizeLine ∧ ∀ q H2, Same H1 H2 → H2 q = some (.tup vs) → Q (.ref q) H2
def tLstS (t : TA) : TE := fun σ H Q => t σ H fun vs H1 => vs.length ≤ sizeLine ∧ ∀ q H2, Same H1 H2 → H1 q = none → H2 q = some (.lst vs) → Q (.ref q) H2
theorem pe_tupS {x1} (h : PA X es t) : PE X (.Tuple es x1 pos) (tTupS t) := PE.imp (pe_tup (paMono h)) fun _ _ _ q => ⟨_, q, fun _ _ z => ⟨z.1, fun p np => z.2 p _ (Same.upd np) upd_same⟩⟩
theorem pe_lstS (h : PA X es t) : PE X (.List es pos) (tLstS t) := PE.imp (pe_lst (paMono h)) fun _ _ _ q => ⟨_, q, fun _ _ z => ⟨z.1, fun p np => z.2 p _ (Same.upd np) np upd_same⟩⟩
end
end My

namespace My
open PySem PySem.Spec PyProof.Rows L2
abbrev sBook : Stmt := topS 16
/-- a list of pairs -/
structure PL (b : Int) (ns : List Str) (H : Hp) (a : Addr) : Prop where
  ex : ∃ zs : List (Addr × Int × Str), H a = some (.lst (zs.map fun z => .ref z.1)) ∧ (∀ z ∈ zs, H z.1 = some (.tup (pv2 z.2)) ∧ InB b ns z.2) ∧ zs.length ≤ 12
theorem PL.same {b : Int} {ns : List Str} {H H' : Hp} {a : Addr} (h : PL b ns H a) (e : Same H H') : PL b ns H' a := by
  obtain ⟨zs, h1, h2, h3⟩ := h.ex
  exact ⟨zs, e _ _ h1, fun z hz => ⟨e _ _ (h2 z hz).1, (h2 z hz).2⟩, h3⟩
theorem PL.one {b : Int} {ns : List Str} {H : Hp} {a q : Addr} {x : Int × Str} (h : H a = some (.lst [.ref q])) (h1 : H q = some (.tup (pv2 x))) (i : InB b ns x) : PL b ns H a :=
  ⟨[(q, x)], h, fun z hz => by rw [List.mem_singleton.mp hz]; exact ⟨h1, i⟩, by show 1 ≤ 12; decide⟩
theorem PL.two {b : Int} {ns : List Str} {H : Hp} {a q r : Addr} {x y : Int × Str} (h : H a = some (.lst [.ref q, .ref r])) (h1 : H q = some (.tup (pv2 x))) (h2 : H r = some (.tup (pv2 y))) (i : InB b ns x) (j : InB b ns y) : PL b ns H a :=
  ⟨[(q, x), (r, y)], h, fun z hz => by
    rcases List.mem_cons.mp hz with rfl | hz
    · exact ⟨h1, i⟩
    · rw [List.mem_singleton.mp hz]; exact ⟨h2, j⟩, by show 2 ≤ 12; decide⟩
theorem adr_at {as : List Addr} {i : Int} (h0 : 0 ≤ i) (h1 : i < as.length) : ∃ x : Addr, x ∈ as ∧ atI (as.map V.ref) i = some (.ref x) := by
  obtain ⟨j, rfl⟩ : ∃ j : Nat, i = (j : Int) := ⟨i.toNat, by omega⟩
  have hj : j < as.length := by omega
  exact ⟨as[j], List.getElem_mem hj, atI_nat (by rw [List.getElem?_map, List.getElem?_eq_getElem hj]; rfl)⟩
theorem Mw.own {p r : Addr} {G H G1 H1 : Hp} {o : HO} (m : Mw p G H G1 H1) (h : H r = none) (n : G1 r = none) (hp : r ≠ p) : Mw p G H G1 (upd H1 r o) := by
  refine ⟨m.gg, fun c u hc => ?_, fun c u n1 hc => ?_, m.pl, by rw [upd_ne hp.symm]; exact m.pl', m.old⟩
  · rw [upd_ne (ne_of_none hc n)]; exact m.gh c u hc
  · rw [upd_ne (ne_of_none hc h)]; exact m.bt c u n1 hc
theorem Mw.stand {p r : Addr} {G H G1 H1 : Hp} {o : HO} (m : Mw p G H G1 H1) (h : H r = none) (e : H1 r = some o) : Mw p G H (upd G1 r o) H1 := by
  refine ⟨fun c u hc => ?_, fun c u hc => ?_, m.bt, m.pl, m.pl', fun c hc => ?_⟩
  · by_cases z : c = r
    · subst z
      rw [upd_same]
      have := m.gh c u (m.gg c u hc)
      rw [e] at this
      exact this
    · rw [upd_ne z]; exact m.gg c u hc
  · by_cases z : c = r
    · subst z
      rw [upd_same] at hc
      rw [e]; exact hc
    · rw [upd_ne z] at hc; exact m.gh c u hc
  · rw [upd_ne (fun z => hc.1 (by rw [z]; exact h)), m.old c hc]
/-- a book -/
def bookD (b : Int) (ns : List Str) (rws : List (List (Int × Str))) : PyData := .tuple [.int b, .dict ((ns.zip rws).map fun z => (.str z.1, rowD z.2))]
structure BookOk (b : Int) (ns : List Str) (rws : List (List (Int × Str))) : Prop where
  b0 : 2 ≤ b
  b1 : b ≤ 10
  n0 : ns ≠ []
  n8 : ns.length ≤ 8
  nod : ns.Nodup
  ok : ∀ x ∈ ns, NameOk x
  len : rws.length = ns.length
  rows : ∀ row ∈ rws, RowIn b ns 12 row
def spBook (K : PySem.W.Frag) : Sp := fun vs H Q _ => ∃ (p pc ln : Addr) (b : Int) (ns : List Str) (most t : Nat) (G : Hp), vs = [.ref p, .int b, .ref ln, .int most] ∧ 2 ≤ b ∧ b ≤ 10 ∧ ns ≠ [] ∧ NamesOk ns ns.length ∧ ns.length ≤ 8 ∧ most ≤ 12 ∧ PenC H p pc t ∧ t + 400 < 2 ^ 29 ∧
  Same G H ∧ G p = none ∧ ln ≠ p ∧ H ln = some (.lst (ns.map V.str)) ∧
  ∀ (v : V) (rws : List (List (Int × Str))) (G' H' : Hp), Mw p G H G' H' → PenC H' p pc (t + 30 * ns.length) → Dq K G' v (bookD b ns rws) → BookOk b ns rws → Q v H'
structure TxB (mg : Str → Option Value) : Prop where
  len : mg "len" = none
  range : mg "range" = none
  tuple : mg "tuple" = none
  sorted : mg "sorted" = none
  dict : mg "dict" = none
section
variable {P : Program} {w : World} {K : PySem.W.Frag} {mg : Str → Option Value} {base : Heap}
theorem scBook : FnScope ["pen", "base", "names", "most", "rows", "name", "other", "d", "e", "way", "row", "some", "k", "pair"] ["pen", "base", "names", "most"] (defScope sBook) := ⟨rfl, rfl, rfl, by decide +kernel, rfl, by decide +kernel, by decide +kernel⟩
theorem dqApp {G : Hp} : ∀ {vs us : List V} {ds es : List PyData}, DqAll K G vs ds → DqAll K G us es → DqAll K G (vs ++ us) (ds ++ es)
  | _, _, _, _, .nil, h => h
  | _, _, _, _, .cons a r, h => .cons a (dqApp r h)
theorem dqStrs {G : Hp} : ∀ ns : List Str, DqAll K G (ns.map V.str) (ns.map PyData.str)
  | [] => .nil
  | x :: ns => .cons (.str x) (dqStrs ns)
theorem dqKeys {G : Hp} {kvs : List (Key × V)} {ns : List Str} {rws : List (List (Int × Str))} (h : kvs.map (·.1) = ns.map Sum.inr) (hl : rws.length = ns.length) : DqAll K G (kvs.map fun kv => kV kv.1) (((ns.zip rws).map fun z => (PyData.str z.1, rowD z.2)).map (·.1)) := by
  have e1 : (kvs.map fun kv => kV kv.1) = ns.map V.str := by
    have := congrArg (List.map kV) h
    rw [List.map_map, List.map_map] at this
    exact this
  have e2 : ((ns.zip rws).map fun z => (PyData.str z.1, rowD z.2)).map (·.1) = ns.map PyData.str := by
    rw [List.map_map]
    have := congrArg (List.map PyData.str) (List.map_fst_zip (l₁ := ns) (l₂ := rws) (by omega))
    rw [List.map_map] at this
    exact this
  rw [e1, e2]
  exact dqStrs ns
theorem zipVals {ns : List Str} {rws : List (List (Int × Str))} (hl : rws.length = ns.length) : ((ns.zip rws).map fun z => (PyData.str z.1, rowD z.2)).map (·.2) = rws.map rowD := by
  rw [List.map_map]
  have := congrArg (List.map rowD) (List.map_snd_zip (l₁ := ns) (l₂ := rws) (by omega))
  rw [List.map_map] at this
  exact this
theorem put_new {kvs : List (Key × V)} {ks : List Str} {x : Str} {v : V} (h : kvs.map (·.1) = ks.map Sum.inr) (n : x ∉ ks) : putK kvs (Sum.inr x) v = kvs ++ [(Sum.inr x, v)] := by
  unfold putK
  rw [if_neg]
  intro z
  obtain ⟨kv, h1, h2⟩ := List.any_eq_true.mp z
  have h3 : kv.1 = Sum.inr x := of_decide_eq_true h2
  have h4 : kv.1 ∈ ks.map Sum.inr := by rw [← h]; exact List.mem_map.mpr ⟨kv, h1, rfl⟩
  obtain ⟨y, hy, e⟩ := List.mem_map.mp h4
  rw [h3] at e
  cases e
  exact n hy
theorem take_new {ns : List Str} (h : ns.Nodup) {i : Nat} {x : Str} (hx : ns[i]? = some x) : x ∉ ns.take i := by
  intro z
  obtain ⟨j, hj⟩ := List.mem_iff_getElem?.mp z
  rw [List.getElem?_take] at hj
  by_cases c : j < i
  · rw [if_pos c] at hj
    have hi : i < ns.length := (List.getElem?_eq_some_iff.mp hx).1
    have := (List.getElem?_inj (by omega) h).mp (hj.trans hx.symm)
    omega
  · rw [if_neg c] at hj; cases hj
theorem ne_tl {H : Hp} {a c : Addr} {xs ys : List V} (h : H a = some (.tup xs)) (g : H c = some (.lst ys)) : a ≠ c := fun z => by rw [z, g] at h; cases h
theorem ok_book {f fT fRw : Addr} {fd fdT fdRw : FuncData} (F : Fun K "_law_book" "_law_book" sBook f fd) (T : TxB mg)
    (FT : Fun K "_law_take" "_law_take" sTake fT fdT) (GT : FnOk P w K mg base CX0 2 fT fdT ["pen", "many"] spTakeC) (bT : Binds K fdT ["pen", "many"] []) (gT : mg "_law_take" = some (.ref fT))
    (FRw : Fun K "_law_row" "_law_row" sRow fRw fdRw) (GRw : FnOk P w K mg base CX0 3 fRw fdRw ["pen", "base", "names", "most"] (spRow K)) (bRw : Binds K fdRw ["pen", "base", "names", "most"] []) (gRw : mg "_law_row" = some (.ref fRw)) :
    FnOk P w K mg base CX0 4 f fd ["pen", "base", "names", "most"] (spBook K) := by
  refine F.ok scBook (fun vs H Q E h => ?_) (fun cdv A outer s H vs Q E hr h => ?_)
  · obtain ⟨p, pc, ln, b, ns, most, t, G, rfl, _⟩ := h
    rfl
  · obtain ⟨p, pc, ln, b, ns, most, t, G, rfl, b0, b1, n0, nok, n8, hmo, PC, ht, e, np, lp, hln, k⟩ := h
    have hr3 := hr
    have hr2 : Room 2 _ := hr.mono (by decide)
    have hu := hr.units
    have hu1 := Nat.lt_trans (Nat.add_lt_add_left (show 1 < 64 by decide) _) hr.units
    have nl0 : 0 < ns.length := List.length_pos_iff.mpr n0
    refine ⟨_, (pss_cons (ps_set (i := 4) scBook.nd rfl (Or.inl rfl) pe_dnewK)
      (pss_cons (ps_for PassesOwn.never rfl (pi_list (pv 2)) (pg_name (i := 5) scBook.nd rfl (Or.inr rfl)) (pss_cons (ps_set (i := 6) scBook.nd rfl (Or.inl rfl) (pe_ix ix_list (pv 2) (pe_call GT hr2 (by rfl) gT FT.kp bT .nil pass0 (pa_cons (pv 0) (pa_cons (pe_callB call_len_seq (by rfl) T.len PySem.boot_len (pa_cons (pv 2) pa_nil)) pa_nil))) (fun _ _ => rfl)))
      (pss_cons (ps_set (i := 7) scBook.nd rfl (Or.inl rfl) (pe_call GT hr2 (by rfl) gT FT.kp bT .nil pass0 (pa_cons (pv 0) (pa_cons (pv 1) pa_nil))))
      (pss_cons (ps_set (i := 8) scBook.nd rfl (Or.inl rfl) (pe_call GT hr2 (by rfl) gT FT.kp bT .nil pass0 (pa_cons (pv 0) (pa_cons (pv 1) pa_nil))))
      (pss_cons (ps_set (i := 9) scBook.nd rfl (Or.inl rfl) (pe_call GT hr2 (by rfl) gT FT.kp bT .nil pass0 (pa_cons (pv 0) (pa_cons pe_int pa_nil))))
      (pss_cons (ps_set (i := 10) scBook.nd rfl (Or.inl rfl) (pe_call GRw hr3 (by rfl) gRw FRw.kp bRw .nil pass0 (pa_cons (pv 0) (pa_cons (pv 1) (pa_cons (pv 2) (pa_cons (pv 3) pa_nil))))))
      (C8.pss_cut (ps_if (pt_cmpR op_gt (pv 9) pe_int (nomark _)) (C8.pss_cut (ps_set (i := 11) scBook.nd rfl (Or.inl rfl) (pe_lstS (pa_cons (pe_lstS (pa_cons (pe_tupS (pa_cons (pv 7) (pa_cons (pv 5) pa_nil))) (pa_cons (pe_tupS (pa_cons (pv 8) (pa_cons (pv 5) pa_nil))) pa_nil))) (pa_cons (pe_lc (own := [("k", 12)]) (g := gName 12) (tt := tYes) rfl scBook.nd (pi_range1 (by rfl) T.range (pa_cons (pv 1) pa_nil)) (blkOk_by (N := ["pen", "base", "names", "most", "rows", "name", "other", "d", "e", "way", "row", "some", "k", "pair"]) (sc := defScope sBook) (by decide +kernel)) (fun _ _ _ _ _ => pg_name (i := 12) scBook.nd rfl (Or.inl rfl)) (fun _ _ _ _ _ => pts_nil) (fun _ _ _ _ _ => (pe_tupS (pa_cons (pv 12) (pa_cons (pv 5) pa_nil))))) (pa_cons (pe_lstS (pa_cons (pe_tupS (pa_cons pe_int (pa_cons (pv 6) pa_nil))) (pa_cons (pe_tupS (pa_cons (pe_op op_sub (pv 1) pe_int) (pa_cons (pv 5) pa_nil))) pa_nil))) pa_nil)))))
      (C8.pss_cut (ps_set (i := 11) scBook.nd rfl (Or.inl rfl) (pe_op op_cat (pv 11) (pe_lstS (pa_cons (pe_lstS (pa_cons (pe_tupS (pa_cons (pv 7) (pa_cons (pv 5) pa_nil))) pa_nil)) (pa_cons (pe_lstS (pa_cons (pe_tupS (pa_cons (pv 7) (pa_cons (pv 5) pa_nil))) (pa_cons (pe_tupS (pa_cons (pv 8) (pa_cons (pv 6) pa_nil))) pa_nil))) (pa_cons (pe_lstS (pa_cons (pe_tupS (pa_cons (pv 7) (pa_cons (pv 6) pa_nil))) (pa_cons (pe_tupS (pa_cons (pv 7) (pa_cons (pv 5) pa_nil))) pa_nil))) pa_nil))))))
      (pss_one (ps_set (i := 10) scBook.nd rfl (Or.inl rfl) (pe_callTy call_tuple_of (by rfl) T.tuple boot_tuple (pa_cons (pe_callB (call_sortedDT rfl) (by rfl) T.sorted boot_sorted (pa_cons (pe_callTy (call_dictTP rfl hu) (by rfl) T.dict boot_dict (pa_cons (pe_lc (own := [("pair", 13)]) (g := gName 13) (tt := tYes) rfl scBook.nd (pi_list (pe_ix ix_list (pv 11) (pe_op op_sub (pv 9) pe_int) (fun _ _ => rfl))) (blkOk_by (N := ["pen", "base", "names", "most", "rows", "name", "other", "d", "e", "way", "row", "some", "k", "pair"]) (sc := defScope sBook) (by decide +kernel)) (fun _ _ _ _ _ => pg_name (i := 13) scBook.nd rfl (Or.inl rfl)) (fun _ _ _ _ _ => pts_nil) (fun _ _ _ _ _ => (pe_tupS (pa_cons (pv 13) (pa_cons pe_bl pa_nil))))) pa_nil)) pa_nil)) pa_nil)))))) pss_nil)
      (pss_one (ps_dput hu1 (pv 4) (pv 5) (pv 10) rfl)))))))))
      (pss_one (ps_ret (pe_tup (pa_cons (pv 1) (pa_cons (pv 4) pa_nil))))))), ?_⟩
    intro r nr
    have rp : r ≠ p := pen_not PC.any nr
    have rc : r ≠ pc := fun z => PC.at_c (by rw [← z]; exact nr)
    have rl : r ≠ ln := fun z => by rw [← z, nr] at hln; cases hln
    have gr : G r = none := e.free nr
    have M0 : Mw p G H G (upd H r (.dK [])) := (Mw.take e np PC PC (fun _ _ _ h => h)).own nr gr rp
    refine ⟨_, rfl, ln, rfl, ⟨_, SqL.of ((Same.upd nr) _ _ hln)⟩, for_it (walk_list (K := K) (a := ln) (xs := ns.map V.str)) (fun i σ H2 => (∃ y5 y6 y7 y8 y9 y10 y11 : Option V, σ = [some (.ref p), some (.int b), some (.ref ln), some (.int most), some (.ref r), y5, y6, y7, y8, y9, y10, y11, none, none]) ∧ PenC H2 p pc (t + 30 * i) ∧ i ≤ ns.length ∧
      ∃ (G2 : Hp) (kvs : List (Key × V)) (rws : List (List (Int × Str))), Mw p G H G2 H2 ∧ H2 r = some (.dK kvs) ∧ G2 r = none ∧ kvs.map (·.1) = (ns.take i).map Sum.inr ∧ DqAll K G2 (kvs.map (·.2)) (rws.map rowD) ∧ (∀ row ∈ rws, RowIn b ns 12 row) ∧ rws.length = i) ?_ ?_ ?_ ?_⟩
    · exact ⟨⟨_, _, _, _, _, _, _, rfl⟩, PC.upd rp rc (by omega) _, Nat.zero_le _, G, [], [], M0, upd_same, gr, rfl, .nil, (fun _ h => nomatch h), rfl⟩
    · rintro i σ H2 _ ⟨_, _, _, G2, kvs, rws, m, _⟩
      exact SqL.of (m.bt _ _ lp hln)
    · rintro i x σ H2 H3 hi' ⟨⟨y5, y6, y7, y8, y9, y10, y11, rfl⟩, P2, hi, G2, kvs, rws, m, hrk, g2r, hk, hdq, hin, hlen⟩ ⟨rfl, hx⟩
      rw [List.length_map] at hi'
      obtain ⟨nm, hnm, rfl⟩ : ∃ nm, ns[i]? = some nm ∧ x = .str nm := by
        rw [List.getElem?_map, List.getElem?_eq_getElem hi'] at hx
        exact ⟨ns[i], List.getElem?_eq_getElem hi', (Option.some.inj hx).symm⟩
      have nmin : nm ∈ ns := List.mem_of_getElem? hnm
      have ln2 := m.bt _ _ lp hln
      refine ⟨_, rfl, _, rfl, _, rfl, ln, _, rfl, .inl (SqL.of ln2), p, pc, _, _, rfl, by rw [List.length_map]; omega, by rw [List.length_map]; exact small_nat (by omega), P2, by omega, fun ix H3 i0 i1 b3 P3 => ?_⟩
      rw [List.length_map] at i1
      obtain ⟨ot, otin, hot⟩ := str_at i0 i1
      have ln3 := b3 _ _ lp ln2
      refine ⟨ln, _, _, _, rfl, rfl, SqL.of ln3, hot, ?_⟩
      refine ⟨_, rfl, _, rfl, p, pc, b, _, rfl, by omega, small_int (by omega) (by omega), P3, by omega, fun d H4 d0 d1 b4 P4 => ?_⟩
      refine ⟨_, rfl, _, rfl, p, pc, b, _, rfl, by omega, small_int (by omega) (by omega), P4, by omega, fun e' H5 e0 e1 b5 P5 => ?_⟩
      refine ⟨_, rfl, p, pc, 12, _, rfl, by decide, by decide, P5, by omega, fun wy H6 w0 w1 b6 P6 => ?_⟩
      have bt6 := ((b3.trans b4).trans b5).trans b6
      have m6 := m.trans (Mw.take m.gh (m.gp np) P2 P6 bt6)
      have r6 := bt6 _ _ rp hrk
      refine ⟨_, rfl, _, rfl, _, rfl, _, rfl, p, pc, ln, b, ns, most, _, G2, rfl, b0, b1, n0, n8, hmo, P6, by omega, m6.gh, m.gp np, lp, bt6 _ _ lp ln2, fun v row G7 H7 mr P7 dqv rin => ?_⟩
      have m7 := m6.trans mr
      have r7 := mr.bt _ _ rp r6
      have g7r : G7 r = none := by rw [mr.old r ⟨some_ne r6, fun ys z => by rw [r6] at z; cases z⟩]; exact g2r
      have dq7 := hdq.mono mr.gg
      have P7 : PenC H7 p pc (t + 30 * (i + 1)) := P7.same (Same.refl _) (by omega)
      refine ⟨fun σ H8 => ∃ (v' : V) (row' : List (Int × Str)) (G8 : Hp) (y11 : Option V), σ = [some (.ref p), some (.int b), some (.ref ln), some (.int most), some (.ref r), some (.str nm), some (.str ot), some (.int d), some (.int e'), some (.int wy), some v', y11, none, none] ∧
        Mw p G H G8 H8 ∧ Same G7 G8 ∧ PenC H8 p pc (t + 30 * (i + 1)) ∧ H8 r = some (.dK kvs) ∧ G8 r = none ∧ Dq K G8 v' (rowD row') ∧ RowIn b ns 12 row', ?_, ?_⟩
      · have dn : InB b ns (d, nm) := ⟨d0, d1, nmin⟩
        have en : InB b ns (e', nm) := ⟨e0, e1, nmin⟩
        have dob : InB b ns (d, ot) := ⟨d0, d1, otin⟩
        have eob : InB b ns (e', ot) := ⟨e0, e1, otin⟩
        refine ⟨_, rfl, _, _, rfl, rfl, _, rfl, ite2 (fun wy6 => ?_) (fun _ => ⟨v, row, G7, _, rfl, m7, Same.refl _, P7, r7, g7r, dqv, rin.mem, by have := rin.len; omega⟩)⟩
        have wy6 := of_decide_eq_true wy6
        refine ⟨fun σ H8 => ∃ (sm : Addr) (as : List Addr), σ = [some (.ref p), some (.int b), some (.ref ln), some (.int most), some (.ref r), some (.str nm), some (.str ot), some (.int d), some (.int e'), some (.int wy), some v, some (.ref sm), none, none] ∧ Same H7 H8 ∧ H8 sm = some (.lst (as.map V.ref)) ∧ (∀ a ∈ as, PL b ns H8 a) ∧ as.length = 3, ?_, ?_⟩
        · refine ⟨_, rfl, _, rfl, (by show 2 ≤ sizeLine; decide), fun q1 Ha s1 h1 => ?_⟩
          refine ⟨_, rfl, _, rfl, (by show 2 ≤ sizeLine; decide), fun q2 Hb s2 h2 => ⟨(by show 2 ≤ sizeLine; decide), fun l1 Hc s3 _ g1 => ?_⟩⟩
          have pl1 : PL b ns Hc l1 := PL.two (x := (d, nm)) (y := (e', nm)) g1 (s3 _ _ (s2 _ _ h1)) (s3 _ _ h2) dn en
          have sc : Same H7 Hc := (s1.trans s2).trans s3
          refine ⟨_, rfl, _, rfl, by omega, by omega, fun D nD => ?_⟩
          refine lc_it (walk_range (lo := 0) (n := b.toNat)) (fun j Hi => Same Hc Hi ∧ j ≤ b.toNat ∧ ∃ zs : List (Addr × Int × Str), Hi D = some (.lst (zs.map fun z => V.ref z.1)) ∧ (∀ z ∈ zs, Hi z.1 = some (.tup (pv2 z.2)) ∧ InB b ns z.2) ∧ zs.length = j)
            ⟨Same.upd nD, Nat.zero_le _, [], upd_same, (fun _ h => nomatch h), rfl⟩ (fun _ _ _ _ => trivial) ?_ ?_
          · rintro j x Hi Hj hj ⟨sj, _, zs, hD, hz, hzl⟩ ⟨rfl, hx⟩
            replace hx : x = V.int j := hx.trans (by show V.int (0 + (j : Int)) = _; rw [Int.zero_add])
            subst hx
            refine ⟨rfl, ?_⟩
            refine ⟨_, rfl, _, rfl, (by show 2 ≤ sizeLine; decide), fun q Hk sk hq => ?_⟩
            have hDk := sk _ _ hD
            refine ⟨_, hDk, by rw [List.length_map, sizeLine_eq]; omega, fun c o hc => ?_, by omega, zs ++ [(q, ((j : Int), nm))], by rw [upd_same, List.map_append]; rfl, fun z hzm => ?_, by rw [List.length_append, hzl]; rfl⟩
            · rw [upd_ne (ne_of_none hc nD)]
              exact sk _ _ (sj c o hc)
            · rcases List.mem_append.mp hzm with hzm | hzm
              · have hk2 := sk _ _ (hz z hzm).1
                exact ⟨by rw [upd_ne (ne_tl hk2 hDk)]; exact hk2, (hz z hzm).2⟩
              · rw [List.mem_singleton.mp hzm]
                refine ⟨by rw [upd_ne (ne_tl hq hDk)]; exact hq, by show (0 : Int) ≤ (j : Int); omega, by show (j : Int) < b; omega, nmin⟩
          · rintro Hd ⟨sd, _, zs, hD, hz, hzl⟩
            have pl2 : PL b ns Hd D := ⟨zs, hD, hz, by omega⟩
            refine ⟨_, rfl, (by show 2 ≤ sizeLine; decide), fun q3 He s4 h3 => ?_⟩
            refine ⟨_, rfl, _, _, rfl, rfl, _, rfl, (by show 2 ≤ sizeLine; decide), fun q4 Hf s5 h4 => ⟨(by show 2 ≤ sizeLine; decide), fun l3 Hg s6 _ g3 => ?_⟩⟩
            refine ⟨(by show 3 ≤ sizeLine; decide), fun sm Hh s7 _ hsm => ?_⟩
            have pl3 : PL b ns Hg l3 := PL.two (x := (0, ot)) (y := (b - 1, nm)) g3 (s6 _ _ (s5 _ _ h3)) (s6 _ _ h4) ⟨Int.le_refl 0, by show (0 : Int) < b; omega, otin⟩ ⟨by show (0 : Int) ≤ b - 1; omega, by show b - 1 < b; omega, nmin⟩
            have sdh : Same Hd Hh := ((s4.trans s5).trans s6).trans s7
            refine ⟨sm, [l1, D, l3], rfl, (sc.trans sd).trans sdh, hsm, fun a ha => ?_, rfl⟩
            rcases List.mem_cons.mp ha with rfl | ha
            · exact pl1.same (sd.trans sdh)
            rcases List.mem_cons.mp ha with rfl | ha
            · exact pl2.same sdh
            · rw [List.mem_singleton.mp ha]; exact pl3.same s7
        rintro σ H8 ⟨sm, as, rfl, s8, hsm, hpl, hal⟩
        refine ⟨fun σ H9 => ∃ (sm : Addr) (as : List Addr), σ = [some (.ref p), some (.int b), some (.ref ln), some (.int most), some (.ref r), some (.str nm), some (.str ot), some (.int d), some (.int e'), some (.int wy), some v, some (.ref sm), none, none] ∧ Same H7 H9 ∧ H9 sm = some (.lst (as.map V.ref)) ∧ (∀ a ∈ as, PL b ns H9 a) ∧ as.length = 6, ?_, ?_⟩
        · refine ⟨_, rfl, ?_⟩
          refine ⟨_, rfl, _, rfl, (by show 2 ≤ sizeLine; decide), fun q1 Ha s1 h1 => ⟨(by show 1 ≤ sizeLine; decide), fun l1 Hb s2 _ g1 => ?_⟩⟩
          refine ⟨_, rfl, _, rfl, (by show 2 ≤ sizeLine; decide), fun q2 Hc s3 h2 => ?_⟩
          refine ⟨_, rfl, _, rfl, (by show 2 ≤ sizeLine; decide), fun q3 Hd s4 h3 => ⟨(by show 2 ≤ sizeLine; decide), fun l2 He s5 _ g2 => ?_⟩⟩
          refine ⟨_, rfl, _, rfl, (by show 2 ≤ sizeLine; decide), fun q4 Hf s6 h4 => ?_⟩
          refine ⟨_, rfl, _, rfl, (by show 2 ≤ sizeLine; decide), fun q5 Hg s7 h5 => ⟨(by show 2 ≤ sizeLine; decide), fun l3 Hh s9 _ g3 => ?_⟩⟩
          refine ⟨(by show 3 ≤ sizeLine; decide), fun sn Hi s10 _ hsn => ?_⟩
          have p1 : PL b ns Hb l1 := PL.one (x := (d, nm)) g1 (s2 _ _ h1) dn
          have p2 : PL b ns He l2 := PL.two (x := (d, nm)) (y := (e', ot)) g2 (s5 _ _ (s4 _ _ h2)) (s5 _ _ h3) dn eob
          have p3 : PL b ns Hh l3 := PL.two (x := (d, ot)) (y := (d, nm)) g3 (s9 _ _ (s7 _ _ h4)) (s9 _ _ h5) dob dn
          have sbe : Same Hb He := (s3.trans s4).trans s5
          have seh : Same He Hh := (s6.trans s7).trans s9
          have s8i : Same H8 Hi := (((s1.trans s2).trans sbe).trans seh).trans s10
          refine ⟨sm, sn, _, _, rfl, rfl, s8i _ _ hsm, hsn, by rw [List.length_map, hal]; show 3 + 3 ≤ sizeLine; decide, fun sx nx => ?_⟩
          have sx' : Same Hi (upd Hi sx (.lst (as.map V.ref ++ [V.ref l1, V.ref l2, V.ref l3]))) := Same.upd nx
          refine ⟨sx, as ++ [l1, l2, l3], rfl, (s8.trans s8i).trans sx', by rw [upd_same, List.map_append]; rfl, fun a ha => ?_, by rw [List.length_append, hal]; rfl⟩
          refine PL.same ?_ sx'
          rcases List.mem_append.mp ha with ha | ha
          · exact (hpl a ha).same s8i
          rcases List.mem_cons.mp ha with rfl | ha
          · exact p1.same ((sbe.trans seh).trans s10)
          rcases List.mem_cons.mp ha with rfl | ha
          · exact p2.same (seh.trans s10)
          · rw [List.mem_singleton.mp ha]; exact p3.same s10
        rintro σ H9 ⟨sm, as, rfl, s9, hsm, hpl, hal⟩
        obtain ⟨la, lain, hla⟩ := adr_at (as := as) (i := wy - 5 - 1) (by omega) (by rw [hal]; omega)
        obtain ⟨zs, hz1, hz2, hz3⟩ := (hpl la lain).ex
        have ewy : wy - 6 = wy - 5 - 1 := by omega
        rw [← ewy] at hla
        refine ⟨_, rfl, _, rfl, _, _, rfl, rfl, sm, _, _, _, rfl, rfl, SqL.of hsm, hla, ?_⟩
        refine ⟨la, rfl, ⟨_, SqL.of hz1⟩, fun D nD => ?_⟩
        refine lc_it (walk_list (K := K) (a := la) (xs := zs.map fun z => V.ref z.1)) (fun j Hi => Same H9 Hi ∧ ∃ ws : List (Addr × Addr × (Int × Str)), Hi D = some (.lst (ws.map fun z => V.ref z.1)) ∧ (∀ z ∈ ws, (Hi z.1 = some (.tup [.ref z.2.1, .bl true]) ∧ Hi z.2.1 = some (.tup (pv2 z.2.2))) ∧ InB b ns z.2.2) ∧ ws.length = j)
          ⟨Same.upd nD, [], upd_same, (fun _ h => nomatch h), rfl⟩ (fun j Hi _ q => SqL.of (q.1 _ _ hz1)) ?_ ?_
        · rintro j x Hi Hj hj ⟨sj, ws, hD, hw, hwl⟩ ⟨rfl, hx⟩
          rw [List.length_map] at hj
          rw [List.getElem?_map] at hx
          obtain ⟨z, hzj, rfl⟩ := Option.map_eq_some_iff.mp hx
          have zin := List.mem_of_getElem? hzj
          refine ⟨rfl, ?_⟩
          refine ⟨_, rfl, (by show 2 ≤ sizeLine; decide), fun q Hk sk hq => ?_⟩
          have hDk := sk _ _ hD
          have zk := sk _ _ (sj _ _ (hz2 z zin).1)
          refine ⟨_, hDk, by rw [List.length_map, sizeLine_eq]; omega, fun c o hc => ?_, ws ++ [(q, z.1, z.2)], by rw [upd_same, List.map_append]; rfl, fun y hy => ?_, by rw [List.length_append, hwl]; rfl⟩
          · rw [upd_ne (ne_of_none hc nD)]
            exact sk _ _ (sj c o hc)
          · rcases List.mem_append.mp hy with hy | hy
            · have h1 := sk _ _ (hw y hy).1.1
              have h2 := sk _ _ (hw y hy).1.2
              exact ⟨⟨by rw [upd_ne (ne_tl h1 hDk)]; exact h1, by rw [upd_ne (ne_tl h2 hDk)]; exact h2⟩, (hw y hy).2⟩
            · rw [List.mem_singleton.mp hy]
              exact ⟨⟨by rw [upd_ne (ne_tl hq hDk)]; exact hq, by rw [upd_ne (ne_tl zk hDk)]; exact zk⟩, (hz2 z zin).2⟩
        · rintro Hi ⟨si, ws, hD, hw, hwl⟩
          rw [List.length_map] at hwl
          refine ⟨D, ws, rfl, SqL.of hD, fun z hz => (hw z hz).1, by omega, fun dd ndd => ?_⟩
          have kin := (KeysIn.nil (S := InB b ns)).merge (.bl true) (L := ws.map fun z => z.2.2) fun x hx => by
            obtain ⟨z, hz, rfl⟩ := List.mem_map.mp hx
            exact (hw z hz).2
          rw [List.map_map, List.length_map] at kin
          obtain ⟨ps, k1, k2, k3⟩ := kin.ex
          refine ⟨dd, _, ps, rfl, upd_same, k1, fun us l hp hu' nl => ?_⟩
          refine ⟨l, _, rfl, .inl ⟨SqL.of upd_same, fun q nq => ?_⟩⟩
          have sdd : Same Hi (upd Hi dd (.dT (mergeT [] (ws.map fun z => (pk z.2.2, V.bl true))))) := Same.upd ndd
          have sll : Same (upd Hi dd (.dT (mergeT [] (ws.map fun z => (pk z.2.2, V.bl true))))) (upd (upd Hi dd (.dT (mergeT [] (ws.map fun z => (pk z.2.2, V.bl true))))) l (.lst (us.map fun z => V.ref z.1))) := Same.upd nl
          have s7l := ((s9.trans si).trans sdd).trans sll
          have m9 := (m7.more s7l).all
          have g79 := alls_gg (m7.more s7l).gh
          have hul : ∀ z ∈ us, (upd (upd Hi dd (.dT (mergeT [] (ws.map fun z => (pk z.2.2, V.bl true))))) l (.lst (us.map fun z => V.ref z.1))) z.1 = some (.tup (pv2 z.2)) := fun z hz => sll _ _ (hu' z hz)
          have r9 := s7l _ _ r7
          have P9 := P7.same s7l (Nat.le_refl _)
          generalize upd (upd Hi dd (.dT (mergeT [] (ws.map fun z => (pk z.2.2, V.bl true))))) l (.lst (us.map fun z => V.ref z.1)) = H10 at m9 g79 hul r9 P9 nq s7l
          have g9r : alls G7 H10 r = none := by rw [alls_no (fun ys z => by rw [r9] at z; cases z)]; exact g7r
          have nwq := Nw.mk1 m9.gh nq (.tup (us.map fun z => V.ref z.1))
          have rq : r ≠ q := ne_of_none r9 nq
          refine ⟨.ref q, us.map (·.2), _, _, rfl, m9.trans (Mw.nw nwq P9), g79.trans nwq.gg, P9.same (Same.upd nq) (Nat.le_refl _), by rw [upd_ne rq]; exact r9, by rw [upd_ne rq]; exact g9r, ?_, fun x hx => k2 x (hp.mem_iff.mp hx), by rw [hp.length_eq]; omega⟩
          refine .tup upd_same (dq_zs fun z hzm => ?_)
          rw [upd_ne (fun w' => by have h1 := hul z hzm; rw [w', nq] at h1; cases h1)]
          exact alls_tup (hul z hzm)
      · rintro σ H8 ⟨v', row', G8, y11', rfl, m8, g78, P8, r8, g8r, dqv8, rin8⟩
        refine ⟨_, rfl, _, rfl, _, rfl, r, _, rfl, DPut.k (k := Sum.inr nm) r8 ?_, ?_⟩
        · have h1 := congrArg List.length hk
          rw [List.length_map, List.length_map, List.length_take] at h1
          rw [sizeLine_eq]; omega
        rw [put_new hk (take_new nok.nod hnm)]
        refine ⟨⟨_, _, _, _, _, _, _, rfl⟩, P8.upd rp rc (Nat.le_refl _) _, hi', G8, _, rws ++ [row'], m8.own nr g8r rp, upd_same, g8r, ?_, ?_, fun x hx => ?_, by rw [List.length_append, hlen]; rfl⟩
        · rw [List.map_append, hk, List.take_add_one, hnm, List.map_append]; rfl
        · rw [List.map_append, List.map_append]
          exact dqApp (dq7.mono g78) (.cons dqv8 .nil)
        · rcases List.mem_append.mp hx with hx | hx
          · exact hin x hx
          · rw [List.mem_singleton.mp hx]; exact rin8
    · rintro σ H2 ⟨⟨y5, y6, y7, y8, y9, y10, y11, rfl⟩, P2, _, G2, kvs, rws, m, hrk, g2r, hk, hdq, hin, hlen⟩
      rw [List.length_map] at hk hlen P2
      refine ⟨_, rfl, _, rfl, (by show 2 ≤ sizeLine; decide), fun q nq => ?_⟩
      have m1 := m.stand nr hrk
      have m2 := m1.trans (Mw.nw (Nw.mk1 m1.gh nq (.tup [.int b, .ref r])) P2)
      refine k (.ref q) rws _ _ m2 (P2.same (Same.upd nq) (Nat.le_refl _)) ?_ ⟨b0, b1, n0, n8, nok.nod, nok.ok, hlen, hin⟩
      have rq : r ≠ q := ne_of_none hrk nq
      refine .tup upd_same (.cons (.int _) (.cons ?_ .nil))
      rw [List.take_length] at hk
      refine .dct (kvs := kvs) (by rw [upd_ne rq]; exact upd_same) (dqKeys hk hlen) ?_
      rw [zipVals hlen]
      exact (hdq.mono (Same.upd g2r)).mono (Nw.mk1 m1.gh nq (.tup [.int b, .ref r])).gg
end
end My

namespace My
open PySem PySem.Spec PyProof.Rows L2
/-! ### the text of a book -/
theorem lenap (a b : Str) : (a ++ b).length = a.length + b.length := Str.length_append a b
theorem join_le (B : Nat) : ∀ ts : List Str, (∀ t ∈ ts, t.length ≤ B) → (Str.join ", " ts).length ≤ ts.length * (B + 2)
  | [], _ => by show (0 : Nat) ≤ _; exact Nat.zero_le _
  | [x], h => by
    show x.length ≤ _
    have := h x List.mem_cons_self
    rw [List.length_singleton]; omega
  | x :: y :: r, h => by
    have ih := join_le B (y :: r) fun t ht => h t (List.mem_cons_of_mem _ ht)
    show (x ++ ((", " : String) : Str) ++ Str.join ", " (y :: r)).length ≤ _
    have e : (((", " : String) : Str)).length = 2 := by decide
    have hx := h x List.mem_cons_self
    rw [lenap, lenap, e, List.length_cons, Nat.add_mul]
    omega
theorem tupleText_le (B : Nat) (ts : List Str) (h : ∀ t ∈ ts, t.length ≤ B) : (tupleText ts).length ≤ ts.length * (B + 2) + 3 := by
  unfold tupleText
  have j := join_le B ts h
  have e1 : ((("(" : String) : Str)).length = 1 := by decide
  rw [lenap, lenap, e1]
  have e2 : (((if ts.length == 1 then ",)" else ")" : String) : Str)).length ≤ 2 := by
    cases ts.length == 1 <;> decide
  omega
theorem dictText_le (B : Nat) (ts : List Str) (h : ∀ t ∈ ts, t.length ≤ B) : (dictText ts).length ≤ ts.length * (B + 2) + 2 := by
  unfold dictText
  have j := join_le B ts h
  have e1 : ((("{" : String) : Str)).length = 1 := by decide
  have e2 : ((("}" : String) : Str)).length = 1 := by decide
  rw [lenap, lenap, e1, e2]
  omega
theorem shownAll_map : ∀ ds : List PyData, PyData.shownAll ds = ds.map PyData.shown
  | [] => rfl
  | d :: ds => by rw [List.map_cons, ← shownAll_map ds]; simp only [PyData.shownAll]
theorem shownKv_map : ∀ ds : List (PyData × PyData), PyData.shownKv ds = ds.map fun p => p.1.shown ++ ((": " : String) : Str) ++ p.2.shown
  | [] => rfl
  | (k, v) :: ds => by rw [List.map_cons, ← shownKv_map ds]; simp only [PyData.shownKv]
theorem showAll_of : ∀ ds : List PyData, (∀ d ∈ ds, d.showable = true) → PyData.showableAll ds = true
  | [], _ => rfl
  | d :: ds, h => by simp only [PyData.showableAll, h d List.mem_cons_self, showAll_of ds fun x hx => h x (List.mem_cons_of_mem _ hx), Bool.and_self]
theorem showKv_of : ∀ ds : List (PyData × PyData), (∀ d ∈ ds, d.1.showable = true ∧ d.2.showable = true) → PyData.showableKv ds = true
  | [], _ => rfl
  | (k, v) :: ds, h => by
    have := h (k, v) List.mem_cons_self
    simp only [PyData.showableKv, this.1, this.2, showKv_of ds fun x hx => h x (List.mem_cons_of_mem _ hx), Bool.and_self]
theorem depthAll_le (k : Nat) : ∀ ds : List PyData, (∀ d ∈ ds, d.depth ≤ k) → PyData.depthAll ds ≤ k
  | [], _ => Nat.zero_le _
  | d :: ds, h => by
    have h1 := h d List.mem_cons_self
    have h2 := depthAll_le k ds fun x hx => h x (List.mem_cons_of_mem _ hx)
    simp only [PyData.depthAll]; omega
theorem depthKv_le (k : Nat) : ∀ ds : List (PyData × PyData), (∀ d ∈ ds, d.1.depth ≤ k ∧ d.2.depth ≤ k) → PyData.depthKv ds ≤ k
  | [], _ => Nat.zero_le _
  | (a, b) :: ds, h => by
    have h1 := h (a, b) List.mem_cons_self
    have h2 := depthKv_le k ds fun x hx => h x (List.mem_cons_of_mem _ hx)
    simp only [PyData.depthKv]
    have h3 : a.depth ≤ k := h1.1
    have h4 : b.depth ≤ k := h1.2
    omega
theorem noListAll : ∀ ds : List PyData, (∀ d ∈ ds, hasList d = false) → hasListAll ds = false
  | [], _ => by simp only [hasListAll]
  | d :: ds, h => by simp only [hasListAll, h d List.mem_cons_self, noListAll ds fun x hx => h x (List.mem_cons_of_mem _ hx), Bool.or_self]
theorem noListKv : ∀ ds : List (PyData × PyData), (∀ d ∈ ds, hasList d.1 = false ∧ hasList d.2 = false) → hasListKv ds = false
  | [], _ => by simp only [hasListKv]
  | (k, v) :: ds, h => by
    have := h (k, v) List.mem_cons_self
    simp only [hasListKv, this.1, this.2, noListKv ds fun x hx => h x (List.mem_cons_of_mem _ hx), Bool.or_self]
structure Shw (B k : Nat) (d : PyData) : Prop where
  sh : d.showable = true
  ln : d.shown.length ≤ B
  dp : d.depth ≤ k
  nl : hasList d = false
theorem shw_int {i : Int} (h0 : 0 ≤ i) (h1 : i ≤ 10) : Shw 1921 0 (.int i) := by
  have hl : i.natAbs.log2 < 1920 := Nat.lt_trans (PySem.Flt.log2_lt_of (k := 1900) (by decide) (Nat.lt_of_le_of_lt (show i.natAbs ≤ 10 by omega) (by decide))) (by decide)
  refine ⟨?_, int_text_len_1921 hl, by simp only [PyData.depth]; omega, by simp only [hasList]⟩
  simp only [PyData.showable]; exact decide_eq_true hl
theorem shw_str {x : Str} (h : NameOk x) : Shw 82 0 (.str x) := by
  refine ⟨by simp only [PyData.showable], ?_, by simp only [PyData.depth]; omega, by simp only [hasList]⟩
  have := PySem.StrLaws.reprText_len x fun c hc => by have := h.lets c hc; omega
  have h8 := h.hi
  show (reprText x).length ≤ 82
  omega
theorem shw_tuple {B k n : Nat} {ds : List PyData} (h : ∀ d ∈ ds, Shw B k d) (hn : ds.length ≤ n) : Shw (n * (B + 2) + 3) (k + 1) (.tuple ds) := by
  refine ⟨by simp only [PyData.showable]; exact showAll_of ds fun d hd => (h d hd).sh, ?_, by simp only [PyData.depth]; have := depthAll_le k ds fun d hd => (h d hd).dp; omega, by simp only [hasList]; exact noListAll ds fun d hd => (h d hd).nl⟩
  simp only [PyData.shown]
  rw [shownAll_map]
  have := tupleText_le B (ds.map PyData.shown) fun t ht => by
    obtain ⟨d, hd, rfl⟩ := List.mem_map.mp ht
    exact (h d hd).ln
  rw [List.length_map] at this
  have := Nat.mul_le_mul_right (B + 2) hn
  omega
theorem Shw.up {B B' k k' : Nat} {d : PyData} (h : Shw B k d) (h1 : B ≤ B') (h2 : k ≤ k') : Shw B' k' d := ⟨h.sh, by have := h.ln; omega, by have := h.dp; omega, h.nl⟩
theorem shw_row {b : Int} {ns : List Str} {row : List (Int × Str)} {m : Nat} (hb : b ≤ 10) (hn : ∀ x ∈ ns, NameOk x) (h : RowIn b ns m row) (hm : m ≤ 12) : Shw 60000 2 (rowD row) := by
  unfold rowD
  refine (shw_tuple (B := 4000) (k := 1) (n := 12) (fun d hd => ?_) (by rw [List.length_map]; have := h.len; omega)).up (by decide) (by decide)
  obtain ⟨q, hq, rfl⟩ := List.mem_map.mp hd
  have i := h.mem q hq
  refine (shw_tuple (B := 1921) (k := 0) (n := 2) (fun d hd => ?_) (by simp)).up (by decide) (by decide)
  rcases List.mem_cons.mp hd with rfl | hd
  · exact shw_int i.1 (by have := i.2.1; omega)
  · rw [List.mem_singleton.mp hd]; exact (shw_str (hn _ i.2.2)).up (by decide) (by decide)
theorem shw_book {b : Int} {ns : List Str} {rws : List (List (Int × Str))} (B : BookOk b ns rws) : Shw 2000000 5 (bookD b ns rws) := by
  have key : ∀ d ∈ (ns.zip rws).map (fun z => (PyData.str z.1, rowD z.2)), Shw 82 0 d.1 ∧ Shw 60000 2 d.2 := fun d hd => by
    obtain ⟨z, hz, rfl⟩ := List.mem_map.mp hd
    obtain ⟨h1, h2⟩ := List.of_mem_zip hz
    exact ⟨shw_str (B.ok _ h1), shw_row B.b1 B.ok (B.rows _ h2) (by decide)⟩
  have dict : Shw 600000 3 (.dict ((ns.zip rws).map fun z => (PyData.str z.1, rowD z.2))) := by
    refine ⟨by simp only [PyData.showable]; exact showKv_of _ fun d hd => ⟨(key d hd).1.sh, (key d hd).2.sh⟩, ?_, ?_, by simp only [hasList]; exact noListKv _ fun d hd => ⟨(key d hd).1.nl, (key d hd).2.nl⟩⟩
    · simp only [PyData.shown]
      rw [shownKv_map]
      have := dictText_le 60100 (((ns.zip rws).map fun z => (PyData.str z.1, rowD z.2)).map fun p => p.1.shown ++ ((": " : String) : Str) ++ p.2.shown) fun t ht => by
        obtain ⟨d, hd, rfl⟩ := List.mem_map.mp ht
        have h1 := (key d hd).1.ln
        have h2 := (key d hd).2.ln
        have e : (((": " : String) : Str)).length = 2 := by decide
        rw [lenap, lenap, e]; omega
      have l8 : (((ns.zip rws).map fun z => (PyData.str z.1, rowD z.2)).map fun p => p.1.shown ++ ((": " : String) : Str) ++ p.2.shown).length ≤ 8 := by
        rw [List.length_map, List.length_map, List.length_zip]
        have := B.n8
        omega
      have := Nat.mul_le_mul_right (60100 + 2) l8
      omega
    · simp only [PyData.depth]
      have := depthKv_le 2 _ fun d hd => ⟨by have := (key d hd).1.dp; omega, (key d hd).2.dp⟩
      omega
  unfold bookD
  refine (shw_tuple (B := 600000) (k := 3) (n := 2) (fun d hd => ?_) (by simp)).up (by decide) (by decide)
  rcases List.mem_cons.mp hd with rfl | hd
  · exact (shw_int (by have := B.b0; omega) B.b1).up (by decide) (by decide)
  · rw [List.mem_singleton.mp hd]; exact dict
/-! ### what a standing book is -/
theorem keys_of {K : PySem.W.Frag} {G : Hp} : ∀ {kvs : List (Key × V)} {ns : List Str}, DqAll K G (kvs.map fun kv => kV kv.1) (ns.map PyData.str) → kvs.map (·.1) = ns.map Sum.inr
  | [], [], _ => rfl
  | [], _ :: _, h => by cases h
  | _ :: _, [], h => by cases h
  | (k, v) :: kvs, n :: ns, h => by
    cases h with
    | cons h1 h2 =>
      have e : k = Sum.inr n := by
        cases k with
        | inl i => exact nomatch h1
        | inr x => 
          have h1' : Dq K G (.str x) (.str n) := h1
          cases h1'
          rfl
      rw [List.map_cons, List.map_cons, keys_of h2, e]
end My

namespace My
open PySem PySem.Spec PyProof.Rows L2
/-! ### t * k, any k that is not below nought -/
theorem mul_same (l : Addr) (items : Array Value) (n : Nat) (dd : Option Addr) (sl : Array (Option Value)) (u : Tok) :
    Meets (Builtin.«tuple.__mul__» ⟨[.ref l, .int 1 u], []⟩) (fun _ R s => s.heap.get? l = some { cls := .type "tuple", dict := dd, data := .seq items n, slots := sl } ∧ R (.ok (.ret (Value.ref l))) s) :=
  .of_wp fun prog w A R s h => by
    obtain ⟨hp, g, d, tk, os⟩ := s
    obtain ⟨hl, h⟩ := h
    have f1 := AutoSeq1.idx_int
    have c1 : (items.isEmpty || (1 : Int) == 1) = true := by rw [Bool.or_comm]; rfl
    wp_walk using wpAny_loadPart' hl
    repeat (first
      | (refine wpAny_ite_true (decide_eq_true c1) ?_; wp_walk using wpAny_loadPart' hl)
      | (refine wpAny_ite_false (decide_eq_false (by decide)) ?_; wp_walk using wpAny_loadPart' hl))
    exact ⟨_, rfl, h⟩
theorem mul_none (l : Addr) (items : Array Value) (n : Nat) (dd : Option Addr) (sl : Array (Option Value)) (u : Tok) (c1 : (items.isEmpty || (0 : Int) == 1) = false) :
    Meets (Builtin.«tuple.__mul__» ⟨[.ref l, .int 0 u], []⟩) (fun _ R s => s.heap.get? l = some { cls := .type "tuple", dict := dd, data := .seq items n, slots := sl } ∧ R (.ok (.ret (Value.ref s.heap.objs.size))) { s with heap := s.heap.push { cls := Value.type "tuple", data := Data.seq #[] }, toks := s.toks }) :=
  .of_wp fun prog w A R s h => by
    obtain ⟨hp, g, d, tk, os⟩ := s
    obtain ⟨hl, h⟩ := h
    have f1 := AutoSeq1.idx_int
    have c2 : (decide ((0 : Int) ≤ 0) || items.isEmpty) = true := rfl
    wp_walk using wpAny_loadPart' hl
    repeat (first
      | (refine wpAny_ite_false (decide_eq_false (by rw [c1]; exact Bool.false_ne_true)) ?_; wp_walk using wpAny_loadPart' hl)
      | (refine wpAny_ite_true (decide_eq_true c2) ?_; wp_walk using wpAny_loadPart' hl)
      | (refine wpAny_ite_false (decide_eq_false (by decide)) ?_; wp_walk using wpAny_loadPart' hl))
    exact ⟨_, rfl, h⟩
def rMulT (K : PySem.W.Frag) : R2 := fun x y H Q => ∃ l k xs, x = .ref l ∧ y = .int k ∧ SqT K H l xs ∧ xs ≠ [] ∧ 0 ≤ k ∧ k ≤ 1000 ∧ xs.length ≤ 1000 ∧ (k = 1 → Q (.ref l) H) ∧ (k ≠ 1 → ∀ p, H p = none → Q (.ref p) (upd H p (.tup (List.replicate k.toNat xs).flatten)))
theorem op_mulT {X : Cx} : OpR X (binaryOp .Mult) (rMulT X.K) := by
  intro pins s σ H x y v u Q I rx ry h
  obtain ⟨l, k, xs, rfl, rfl, hT, hne, h0, h1, hz, q1, q2⟩ := h
  by_cases k2 : 2 ≤ k
  · exact op_repT pins s σ H _ _ v u Q I rx ry ⟨l, k, xs, rfl, rfl, hT, hne, k2, h1, hz, q2 (by omega)⟩
  cases rx
  obtain ⟨t, rfl⟩ := ry
  obtain ⟨its, r, ⟨⟨cls, dd, data, sl⟩, ho, hc, n, hd⟩, hs⟩ := I.tuple hT
  simp only at hc hd
  subst hc hd
  have hle : its.length = xs.length := r.length.symm
  have hi : its.toArray.isEmpty = false := by
    cases its with
    | nil => exact absurd (List.eq_nil_of_length_eq_zero hle.symm) hne
    | cons a b => rfl
  by_cases k1 : k = 1
  · subst k1
    exact wpAny_binaryOp_repeat_ref (T := "tuple") (U := "int") (by decide) ⟨_, ho, rfl⟩ (fun s' => typeIs_int s' 1 t) noFill_tuple_mul F.fills_int_mul F.slot_int_rmul repeat_tuple F.slot_int_index.lookup
      (call_meets F.slot_int_rmul (typeIs_int s 1 t) F.entry_int_rmul (F.args_int_rmul_2 _ _) (int_rmul_tuple 1 t l its.toArray n dd sl) ⟨ho, rfl, ⟨_, ho, rfl⟩, call_meets F.slot_tuple_mul ⟨_, ho, rfl⟩ F.entry_tuple_mul (F.args_tuple_mul_2 _ _) (mul_same l its.toArray n dd sl t) ⟨ho, .ref l, H, I, rfl, q1 rfl⟩⟩)
  · have k0 : k = 0 := by omega
    subst k0
    refine wpAny_binaryOp_repeat_ref (T := "tuple") (U := "int") (by decide) ⟨_, ho, rfl⟩ (fun s' => typeIs_int s' 0 t) noFill_tuple_mul F.fills_int_mul F.slot_int_rmul repeat_tuple F.slot_int_index.lookup
      (call_meets F.slot_int_rmul (typeIs_int s 0 t) F.entry_int_rmul (F.args_int_rmul_2 _ _) (int_rmul_tuple 0 t l its.toArray n dd sl) ⟨ho, rfl, ⟨_, ho, rfl⟩, call_meets F.slot_tuple_mul ⟨_, ho, rfl⟩ F.entry_tuple_mul (F.args_tuple_mul_2 _ _) (mul_none l its.toArray n dd sl t (by rw [hi]; rfl)) ⟨ho, ?_⟩⟩)
    refine ⟨.ref s.heap.objs.size, _, I.laid (t' := s.toks) (o := .tup []) (fun b ob q => Heap.get?_push_of_some _ q) (Nat.le_refl _) ?_, rfl, q2 (by decide) _ (I.hok.fresh (Nat.le_refl _))⟩
    exact ⟨by simp, [], .nil, IsTup.new _ _⟩
/-! ### rules by what stands still -/
theorem OpR.imp {X : Cx} {f : Value → Value → Sem Value} {r r' : R2} (h : OpR X f r) (i : ∀ x y H Q, r' x y H Q → r x y H Q) : OpR X f r' := fun pins s σ H x y v u Q I rx ry q => h pins s σ H x y v u Q I rx ry (i _ _ _ _ q)
theorem SlR.imp {X : Cx} {r r' : V → Option Int → Option Int → Hp → VK → Prop} (h : SlR X r) (i : ∀ x lo hi H Q, r' x lo hi H Q → r x lo hi H Q) : SlR X r' := fun pins s σ H x v vl vu lo hi sl Q I rx hs pl pu q => h pins s σ H x v vl vu lo hi sl Q I rx hs pl pu (i _ _ _ _ _ q)
def rMulG : R2 := fun x y H Q => ∃ (G : Hp) (l : Addr) (k : Int) (xs : List V), x = .ref l ∧ y = .int k ∧ Same G H ∧ G l = some (.tup xs) ∧ xs ≠ [] ∧ 0 ≤ k ∧ k ≤ 1000 ∧ xs.length ≤ 1000 ∧ ∀ (a : Addr) (G' H' : Hp), Nw G H G' H' → G' a = some (.tup (List.replicate k.toNat xs).flatten) → Q (.ref a) H'
theorem op_mulG {X : Cx} : OpR X (binaryOp .Mult) rMulG := OpR.imp op_mulT fun x y H Q ⟨G, l, k, xs, e1, e2, e, hl, hn, k0, k1, hz, q⟩ =>
  ⟨l, k, xs, e1, e2, SqT.of (e _ _ hl), hn, k0, k1, hz, fun z => q l G H (Nw.refl e) (by rw [z]; simpa using hl), fun _ p np => q p _ _ (Nw.mk1 e np _) upd_same⟩
def rCatG : R2 := fun x y H Q => ∃ (G : Hp) (a b : Addr) (xs ys : List V), x = .ref a ∧ y = .ref b ∧ Same G H ∧ G a = some (.tup xs) ∧ G b = some (.tup ys) ∧ xs.length + ys.length ≤ sizeLine ∧ ∀ (c : Addr) (G' H' : Hp), Nw G H G' H' → G' c = some (.tup (xs ++ ys)) → Q (.ref c) H'
theorem op_catG {X : Cx} : OpR X (binaryOp .Add) rCatG := OpR.imp op_catA fun x y H Q ⟨G, a, b, xs, ys, e1, e2, e, ha, hb, hz, q⟩ =>
  ⟨a, b, xs, ys, e1, e2, SqT.of (e _ _ ha), SqT.of (e _ _ hb), hz, fun z => q b G H (Nw.refl e) (by rw [z]; simpa using hb), fun _ z => q a G H (Nw.refl e) (by rw [z]; simpa using ha), fun _ _ p np => q p _ _ (Nw.mk1 e np _) upd_same⟩
def rSlG : V → Option Int → Option Int → Hp → VK → Prop := fun x lo hi H Q => ∃ (G : Hp) (a : Addr) (xs : List V), x = .ref a ∧ Same G H ∧ G a = some (.tup xs) ∧ ∀ (c : Addr) (G' H' : Hp), Nw G H G' H' → G' c = some (.tup (cutV xs lo hi)) → Q (.ref c) H'
theorem sl_tupG {X : Cx} : SlR X rSlG := SlR.imp sl_tupA fun x lo hi H Q ⟨G, a, xs, e1, e, ha, q⟩ =>
  ⟨a, xs, e1, SqT.of (e _ _ ha), fun z => q a G H (Nw.refl e) (by
    have : cutV xs lo hi = xs := by
      unfold cutV
      rw [z.1, z.2, List.drop_zero, Nat.sub_zero, List.take_length]
    rw [this]; exact ha), fun _ p np => q p _ _ (Nw.mk1 e np _) upd_same⟩
end My

set_option linter.all false
namespace My
open PySem PySem.Spec PyProof.Rows L2
/-! ### dicts with keys of any kind: entries known one by one -/
/-- an entry that holds a key -/
def EnK (w : World) (h : Heap) (k : NestedKey) (e : DictEntry) : Prop := NestedIs h k e.key ∧ e.hash = k.hash w ∧ k.depth ≤ 8
structure Ks (w : World) (h : Heap) (ks : List NestedKey) (es : Array DictEntry) : Prop where
  len : ks.length = es.size
  at' : ∀ (i : Nat) (e : DictEntry), es[i]? = some e → ∃ x, ks[i]? = some x ∧ EnK w h x e
  nod : ks.Nodup
theorem Ks.to {w : World} {h : Heap} {ks : List NestedKey} {es : Array DictEntry} (S : Ks w h ks es) {j : Nat} {k : NestedKey} (e : ks[j]? = some k) : ∃ en, es[j]? = some en ∧ EnK w h k en := by
  have hj : j < es.size := by rw [← S.len]; exact (List.getElem?_eq_some_iff.mp e).1
  obtain ⟨x, h1, h2⟩ := S.at' j es[j] (Array.getElem?_eq_getElem hj)
  rw [e] at h1
  cases h1
  exact ⟨_, Array.getElem?_eq_getElem hj, h2⟩
theorem Ks.one {w : World} {h : Heap} {ks : List NestedKey} {es : Array DictEntry} (S : Ks w h ks es) {i j : Nat} {k : NestedKey} (e : ks[i]? = some k) (f : ks[j]? = some k) : i = j :=
  (List.getElem?_inj (List.getElem?_eq_some_iff.mp e).1 S.nod).mp (e.trans f.symm)
theorem is_text {h : Heap} {k : NestedKey} {x : Str} {t : Tok} (r : NestedIs h k (.str x t)) : k = .text x := by cases r; rfl
section
variable {prog : Program} {w : World} {A : Around} {E : Value → Shared → Prop} {s : Shared}
def plc (es : Array DictEntry) (h : Int) : List Nat := placesWithHash es.size (fun i => es[i]?.map (·.hash)) h
theorem plc_mem {es : Array DictEntry} {h : Int} {i : Nat} : i ∈ plc es h ↔ ∃ e, es[i]? = some e ∧ e.hash = h := by
  unfold plc placesWithHash
  rw [List.mem_filter, List.mem_range]
  show _ ∧ (Option.map (fun (e : DictEntry) => e.hash) es[i]? == some h) = true ↔ _
  constructor
  · rintro ⟨h1, h2⟩
    refine ⟨es[i], Array.getElem?_eq_getElem h1, ?_⟩
    rw [Array.getElem?_eq_getElem h1] at h2
    simpa using h2
  · rintro ⟨e, h1, h2⟩
    refine ⟨(Array.getElem?_eq_some_iff.mp h1).1, ?_⟩
    rw [h1]; simp [h2]
theorem plc_nod (es : Array DictEntry) (h : Int) : (plc es h).Nodup := List.Pairwise.filter _ List.nodup_range
theorem mayTell_any {k : NestedKey} {u : Value} {l : List Value} {R : Bool → Shared → Prop} (hk : NestedIs s.heap k u) (h8 : k.depth ≤ 8) (hs : ∀ v ∈ l, ∃ x : NestedKey, NestedIs s.heap x v ∧ x.depth ≤ 8) (r : R false s) : wpAny (model prog w) A (tableMayTell u l) R E s := by
  have q8 : ∀ {x : NestedKey} {v : Value} {T : Bool → Shared → Prop}, NestedIs s.heap x v → x.depth ≤ 8 → T true s → wpAny (model prog w) A (eqIsQuiet 8 v) T E s := fun {x v T} a b c => quiet_key x v 8 s a b A E T c
  unfold tableMayTell
  split
  · exact wpAny_pure r
  · refine wpAny_bind (q8 hk h8 ?_)
    rw [if_neg (by simp)]
    refine wpAny_bind (wpAny_forIn_list _ (fun rest b s' => s' = s ∧ b = (none, ()) ∧ ∀ v ∈ rest, ∃ x : NestedKey, NestedIs s.heap x v ∧ x.depth ≤ 8) _ ?_ ?_ _ _ ⟨rfl, rfl, hs⟩)
    · rintro v rest b s' ⟨rfl, rfl, hv⟩
      obtain ⟨x, h1, h2⟩ := hv v List.mem_cons_self
      refine wpAny_bind (q8 h1 h2 ?_)
      rw [if_neg (by simp)]
      exact wpAny_pure ⟨rfl, rfl, fun z hz => hv z (List.mem_cons_of_mem _ hz)⟩
    · rintro b s' ⟨rfl, rfl, _⟩
      exact wpAny_pure r
theorem dictFind_any {d : Addr} {o : Obj} {es : Array DictEntry} {ep : Nat} {ks : List NestedKey} {k : NestedKey} {u : Value} {Q : Option Nat → Shared → Prop} (hu : A.units + 8 < cLine) (hk : NestedIs s.heap k u) (h8 : k.depth ≤ 8)
    (ho : s.heap.get? d = some o) (hd : o.data = .dict es ep) (S : Ks w s.heap ks es) (q0 : k ∉ ks → Q none s) (q1 : ∀ j, ks[j]? = some k → Q (some j) s) :
    wpAny (model prog w) A (dictFind d u (k.hash w)) Q E s := by
  have eqs : ∀ {x : NestedKey} {e : DictEntry} {R : Bool → Shared → Prop}, EnK w s.heap x e → R (decide (x = k)) s → wpAny (model prog w) A (eqBool e.key u) R E s := fun {x e R} hx r =>
    eqAt_key x k A s _ _ hx.1 hk (by have := hx.2.2; omega) _ _ _ _ (by rw [← NestedKey.decide_eq]; exact r)
  unfold dictFind
  try with_reducible refine wpAny_holding ?_
  refine wpAny_bind (wpAny_dictEntries ho hd ?_)
  dsimp only
  -- the walk over places
  have walkP : wpAny (model prog w) A (dictWalkPlain d u (k.hash w) es (plc es (k.hash w))) Q E s := by
    unfold dictWalkPlain
    refine wpAny_bind ?_
    refine wpAny_forIn_list _ (fun rest b s' => s' = s ∧ b = (none, ()) ∧ (∀ i ∈ rest, i ∈ plc es (k.hash w)) ∧ ∀ j, ks[j]? = some k → j ∈ rest) _ ?_ ?_ _ _ ⟨rfl, rfl, fun _ h => h, fun j hj => ?_⟩
    · rintro x rest b s' ⟨rfl, rfl, hin, hall⟩
      obtain ⟨e, he, hh⟩ := plc_mem.mp (hin x List.mem_cons_self)
      obtain ⟨y, hy, ey⟩ := S.at' x e he
      have hin' : ∀ i ∈ rest, i ∈ plc es (k.hash w) := fun i hi => hin i (List.mem_cons_of_mem _ hi)
      rw [he]
      dsimp only
      rw [if_pos (by rw [hh]; exact beq_self_eq_true _)]
      refine wpAny_bind (wpAny_dictEpoch ho hd (wpAny_bind (eqs ey (wpAny_bind (wpAny_dictEpoch ho hd ?_)))))
      rw [if_neg (by simp)]
      by_cases c : y = k
      · rw [decide_eq_true c]
        rw [c] at hy
        exact wpAny_bind (wpAny_rule (wpAny_pure (wpAny_pure (q1 x hy))))
      · rw [decide_eq_false c]
        refine wpAny_bind (wpAny_rule (wpAny_pure ⟨rfl, rfl, hin', fun j hj => ?_⟩))
        rcases List.mem_cons.mp (hall j hj) with z | z
        · rw [z, hy] at hj
          exact absurd (Option.some.inj hj) c
        · exact z
    · rintro b s' ⟨rfl, rfl, _, hall⟩
      refine wpAny_pure (q0 fun hm => ?_)
      obtain ⟨j, hj⟩ := List.mem_iff_getElem?.mp hm
      exact nomatch hall j hj
    · obtain ⟨en, h1, h2⟩ := S.to hj
      exact plc_mem.mpr ⟨en, h1, h2.2.1⟩
  have sub : ∀ v ∈ (plc es (k.hash w)).filterMap (fun i => es[i]?.map (·.key)), ∃ x, NestedIs s.heap x v ∧ x.depth ≤ 8 := fun v hv => by
    obtain ⟨i, _, hi⟩ := List.mem_filterMap.mp hv
    cases he : es[i]? with
    | none => rw [he] at hi; cases hi
    | some e =>
      rw [he] at hi
      cases hi
      obtain ⟨y, _, ey⟩ := S.at' i e he
      exact ⟨y, ey.1, ey.2.2⟩
  have notold : ∀ a, u = .ref a → ¬ (es.any fun e => e.key == Value.ref a && e.hash != k.hash w) = true := by
    intro a ea c
    rw [← Array.any_toList] at c
    obtain ⟨e, he, hc⟩ := List.any_eq_true.mp c
    obtain ⟨i, hi⟩ := List.mem_iff_getElem?.mp he
    obtain ⟨y, _, ey⟩ := S.at' i e (by rw [← hi, Array.getElem?_toList])
    simp only [Bool.and_eq_true, beq_iff_eq, bne_iff_ne, ne_eq] at hc
    have r := ey.1
    rw [hc.1, ← ea] at r
    rw [NestedIs.inj _ _ _ r hk] at ey
    exact hc.2 ey.2.1
  have inv0 : s = s ∧ (plc es (k.hash w)).Nodup ∧ (∀ i ∈ plc es (k.hash w), i ∈ plc es (k.hash w)) ∧ ∃ hit : Option Nat, ((none : Option (Option Nat)), (none : Option Nat)) = (none, hit) ∧ ((hit = none ∧ ∀ j, ks[j]? = some k → j ∈ plc es (k.hash w)) ∨ ∃ j, hit = some j ∧ ks[j]? = some k ∧ j ∉ plc es (k.hash w)) := by
    refine ⟨rfl, plc_nod _ _, fun _ h => h, none, rfl, .inl ⟨rfl, fun j hj => ?_⟩⟩
    obtain ⟨en, h1, h2⟩ := S.to hj
    exact plc_mem.mpr ⟨en, h1, h2.2.1⟩
  have text : ∀ (x : Str) (t : Tok), u = .str x t → wpAny (model prog w) A (foundByValue d u es x) Q E s := by
    intro x t eu
    have kx : k = .text x := is_text (by rw [← eu]; exact hk)
    unfold foundByValue
    have key : ∀ (i : Nat) (e : DictEntry), es[i]? = some e → (e.key.isStr x = true ↔ ks[i]? = some k) := by
      intro i e he
      obtain ⟨y, hy, ey⟩ := S.at' i e he
      constructor
      · intro c
        have r := ey.1
        cases hz : e.key with
        | str z t2 =>
          rw [hz] at r c
          have zx : z = x := by simpa [Value.isStr] using c
          rw [hy, is_text r, kx, zx]
        | _ => rw [hz] at c; simp [Value.isStr] at c
      · intro c
        rw [hy] at c
        cases c
        have r := ey.1
        rw [kx] at r
        cases hz : e.key with
        | str z t2 => rw [hz] at r; cases r; simp [Value.isStr]
        | _ => rw [hz] at r; cases r
    cases hf : es.findIdx? (fun e => e.key.isStr x) with
    | none =>
      refine wpAny_pure (q0 fun hm => ?_)
      obtain ⟨j, hj⟩ := List.mem_iff_getElem?.mp hm
      obtain ⟨en, h1, _⟩ := S.to hj
      have := Array.findIdx?_eq_none_iff.mp hf en (Array.mem_of_getElem? h1)
      rw [(key j en h1).mpr hj] at this
      cases this
    | some i =>
      obtain ⟨hi, h1, _⟩ := Array.findIdx?_eq_some_iff_getElem.mp hf
      have he : es[i]? = some es[i] := Array.getElem?_eq_getElem hi
      have hj := (key i _ he).mp h1
      obtain ⟨y, hy, ey⟩ := S.at' i _ he
      dsimp only
      rw [he]
      refine wpAny_bind (wpAny_dictEpoch ho hd (wpAny_bind (eqs ey (wpAny_bind (wpAny_dictEpoch ho hd ?_)))))
      rw [if_neg (by simp)]
      rw [hj] at hy
      rw [decide_eq_true (Option.some.inj hy).symm]
      exact wpAny_bind (wpAny_rule (wpAny_pure (q1 i hj)))
  have loop : ∀ (W : Nat → Option (Option Nat) × Option Nat → Sem (ForInStep (Option (Option Nat) × Option Nat))),
      (∀ x e y hit, es[x]? = some e → ks[x]? = some y → EnK w s.heap y e → e.hash = k.hash w → (y = k → hit = none) →
        ∀ R : ForInStep (Option (Option Nat) × Option Nat) → Shared → Prop, (y = k → ks[x]? = some k → Q (some x) s → R (.done (some (some x), hit)) s) → (y = k → R (.yield (none, some x)) s) → (y ≠ k → R (.yield (none, hit)) s) → wpAny (model prog w) A (W x (none, hit)) R E s) →
      wpAny (model prog w) A (forIn (plc es (k.hash w)) ((none : Option (Option Nat)), (none : Option Nat)) W) (fun b s' => s' = s ∧ ((∃ r, b = (some r, none) ∧ Q r s) ∨ ∃ r, b = (none, r) ∧ Q r s)) E s := by
    intro W hW
    refine wpAny_forIn_list _ (fun rest b s' => s' = s ∧ ((∃ j, b = (some (some j), none) ∧ Q (some j) s ∧ rest = []) ∨ (rest.Nodup ∧ (∀ i ∈ rest, i ∈ plc es (k.hash w)) ∧ ∃ hit : Option Nat, b = (none, hit) ∧ ((hit = none ∧ ∀ j, ks[j]? = some k → j ∈ rest) ∨ ∃ j, hit = some j ∧ ks[j]? = some k ∧ j ∉ rest)))) _ ?_ ?_ _ _ ⟨rfl, .inr inv0.2⟩
    · rintro x rest b s' ⟨rfl, ⟨j, _, _, z⟩ | ⟨hn, hin, hit, rfl, hH⟩⟩
      · cases z
      · obtain ⟨e, he, hh⟩ := plc_mem.mp (hin x List.mem_cons_self)
        obtain ⟨y, hy, ey⟩ := S.at' x e he
        obtain ⟨hnx, hn'⟩ := List.nodup_cons.mp hn
        have hin' : ∀ i ∈ rest, i ∈ plc es (k.hash w) := fun i hi => hin i (List.mem_cons_of_mem _ hi)
        have hnone : y = k → hit = none := fun c => by
          rcases hH with ⟨z, _⟩ | ⟨j, _, hj, nj⟩
          · exact z
          · rw [c] at hy
            exact absurd (by rw [S.one hj hy]; exact List.mem_cons_self) nj
        refine hW x e y hit he hy ey hh hnone _ (fun c hx q => ?_) (fun c => ?_) fun c => ?_
        · exact ⟨rfl, .inl ⟨_, by rw [hnone c], q⟩⟩
        · rw [c] at hy
          exact ⟨rfl, .inr ⟨hn', hin', some x, rfl, .inr ⟨x, rfl, hy, hnx⟩⟩⟩
        · refine ⟨rfl, .inr ⟨hn', hin', hit, rfl, ?_⟩⟩
          rcases hH with ⟨z, hall⟩ | ⟨j, z, hj, nj⟩
          · refine .inl ⟨z, fun j hj => ?_⟩
            rcases List.mem_cons.mp (hall j hj) with z | z
            · rw [z, hy] at hj
              exact absurd (Option.some.inj hj) c
            · exact z
          · exact .inr ⟨j, z, hj, fun h => nj (List.mem_cons_of_mem _ h)⟩
    · rintro b s' ⟨rfl, ⟨j, rfl, q, _⟩ | ⟨_, _, hit, rfl, hH⟩⟩
      · exact ⟨rfl, .inl ⟨_, rfl, q⟩⟩
      · refine ⟨rfl, .inr ⟨_, rfl, ?_⟩⟩
        rcases hH with ⟨rfl, hall⟩ | ⟨j, rfl, hj, _⟩
        · refine q0 fun hm => ?_
          obtain ⟨j, hj⟩ := List.mem_iff_getElem?.mp hm
          exact nomatch hall j hj
        · exact q1 j hj
  have tells : ∀ R : Bool → Shared → Prop, R false s → wpAny (model prog w) A (tableMayTell u ((plc es (k.hash w)).filterMap fun i => es[i]?.map (·.key))) R E s := fun R r => mayTell_any hk h8 sub r
  have body : ∀ (x : Nat) (e : DictEntry) (y : NestedKey) (hit : Option Nat) (R : ForInStep (Option (Option Nat) × Option Nat) → Shared → Prop), ks[x]? = some y → (y = k → hit = none) → (y = k → ks[x]? = some k → Q (some x) s → R (.done (some (some x), hit)) s) → (y = k → R (.yield (none, some x)) s) → (y ≠ k → R (.yield (none, hit)) s) → y = k ∧ hit = none ∧ Q (some x) s ∧ R (.done (some (some x), hit)) s ∧ R (.yield (none, some x)) s ∨ y ≠ k ∧ R (.yield (none, hit)) s := fun x e y hit R hy hn r1 r2 r3 => by
    by_cases c : y = k
    · have h1 : ks[x]? = some k := by rw [hy, c]
      exact .inl ⟨c, hn c, q1 x h1, r1 c h1 (q1 x h1), r2 c⟩
    · exact .inr ⟨c, r3 c⟩
  by_cases hex : (es.all fun e => isExactStrKey e.key) = true
  all_goals by_cases hall : (u :: (plc es (k.hash w)).filterMap (fun i => es[i]?.map (·.key))).all carriedByValue = true
  all_goals by_cases hone : (((plc es (k.hash w)).filterMap (fun i => es[i]?.map (·.key))) == [u]) = true
  all_goals unfold plc at hall hone walkP tells
  all_goals cases hk
  all_goals (try dsimp only)
  all_goals first | (rw [if_pos hex]; exact text _ _ rfl) | skip
  all_goals first | rw [if_neg hex] | skip
  all_goals first | (rw [if_pos hall]; exact walkP) | skip
  all_goals first | rw [if_neg hall] | skip
  all_goals first | rw [if_neg (notold _ rfl)] | skip
  all_goals first | (rw [if_pos hone]; refine wpAny_bind (wpAny_pure ?_)) | (rw [if_neg hone]; refine wpAny_bind (tells _ ?_))
  all_goals rw [if_neg (by simp)]
  all_goals refine wpAny_bind (wpAny_mono (loop _ ?_) (fun b s' hb => ?_) fun _ _ e => e)
  all_goals first | (rcases hb with ⟨rfl, ⟨r, rfl, q⟩ | ⟨r, rfl, q⟩⟩ <;> exact wpAny_pure q) | skip
  all_goals intro x e y hit he hy ey hh hn R r1 r2 r3
  all_goals rw [he]
  all_goals dsimp only
  all_goals rw [if_pos (by rw [hh]; exact beq_self_eq_true _)]
  all_goals refine wpAny_bind (wpAny_dictEpoch ho hd (wpAny_bind (eqs ey (wpAny_bind (wpAny_dictEpoch ho hd ?_)))))
  all_goals rw [if_neg (by simp)]
  all_goals rcases body x e y hit R hy hn r1 r2 r3 with ⟨c, h0, _, d1, d2⟩ | ⟨c, d3⟩
  all_goals first | (rw [decide_eq_true c]; subst h0; rw [if_pos rfl, if_neg (by simp)]; exact wpAny_bind (wpAny_rule (wpAny_ite_split (fun _ => wpAny_pure d1) fun _ => wpAny_pure d2))) | (rw [decide_eq_false c, if_neg (by simp)]; refine wpAny_bind (wpAny_rule ?_); rw [if_neg (by simp)]; exact wpAny_pure d3)
/-- the key looked up: its place, or none -/
theorem dictGet_any {d : Addr} {o : Obj} {es : Array DictEntry} {ep : Nat} {ks : List NestedKey} {k : NestedKey} {u : Value} {Q : Option Value → Shared → Prop} (hu : A.units + 8 < cLine) (hk : NestedIs s.heap k u) (h8 : k.depth ≤ 8)
    (ho : s.heap.get? d = some o) (hd : o.data = .dict es ep) (S : Ks w s.heap ks es) (q0 : k ∉ ks → Q none { s with toks := s.toks + k.draws })
    (q1 : ∀ (j : Nat) (e : DictEntry), ks[j]? = some k → es[j]? = some e → Q (some e.val) { s with toks := s.toks + k.draws }) : wpAny (model prog w) A (dictGet d u) Q E s := by
  unfold dictGet
  try with_reducible refine wpAny_holding ?_
  refine wpAny_bind (pyHash_key k u A s _ hk (by omega) (wpAny_bind (dictFind_any (s := { s with toks := s.toks + k.draws }) hu hk h8 ho hd S (fun n => wpAny_pure (q0 n)) fun j hj => ?_)))
  obtain ⟨e, he, _⟩ := S.to hj
  refine wpAny_bind (wpAny_dictEntries (s := { s with toks := s.toks + k.draws }) ho hd ?_)
  rw [he]
  exact wpAny_pure (q1 j e hj he)
theorem nested_but {h h' : Heap} {d : Addr} {o : Obj} {es : Array DictEntry} {ep : Nat} {k : NestedKey} {v : Value} (x : NestedIs h k v) (ho : h.get? d = some o) (hd : o.data = .dict es ep) (sb : Heap.SameBut d h h') : NestedIs h' k v :=
  NestedIs.at (fun b ob vs n hb hc => by
    refine (sb.2 b fun z => ?_).trans hb
    rw [z, ho] at hb
    cases hb
    rw [hd] at hc
    cases hc) k v x
theorem Ks.but {h h' : Heap} {d : Addr} {o : Obj} {es es' : Array DictEntry} {ep : Nat} {ks : List NestedKey} (S : Ks w h ks es') (ho : h.get? d = some o) (hd : o.data = .dict es ep) (sb : Heap.SameBut d h h') : Ks w h' ks es' :=
  ⟨S.len, fun i e he => let ⟨x, h1, h2, h3⟩ := S.at' i e he; ⟨x, h1, nested_but h2 ho hd sb, h3⟩, S.nod⟩
/-- a key is put in: its value exchanged, or a new entry at the end -/
theorem dictSet_any {d : Addr} {o : Obj} {es : Array DictEntry} {ep : Nat} {ks : List NestedKey} {k : NestedKey} {u v : Value} {Q : Unit → Shared → Prop} (hu : A.units + 8 < cLine) (hk : NestedIs s.heap k u) (h8 : k.depth ≤ 8)
    (ho : s.heap.get? d = some o) (hx : o.ExactDict) (hd : o.data = .dict es ep) (S : Ks w s.heap ks es) (hz : es.size ≤ sizeLine)
    (q : ∀ (h' : Heap) (es' : Array DictEntry) (ep' : Nat), h'.DictRaw d es' ep' → Heap.SameBut d s.heap h' →
      ((k ∉ ks ∧ es' = es.push ⟨k.hash w, u, v⟩) ∨ ∃ (j : Nat) (e : DictEntry), ks[j]? = some k ∧ es[j]? = some e ∧ es' = es.modify j (fun e => { e with val := v })) → Q () { s with heap := h', toks := s.toks + k.draws }) :
    wpAny (model prog w) A (dictSet d u v) Q E s := by
  unfold dictSet
  try with_reducible refine wpAny_holding ?_
  refine wpAny_bind (pyHash_key k u A s _ hk (by omega) ?_)
  unfold dictSetHashed
  try with_reducible refine wpAny_holding ?_
  refine wpAny_bind (dictFind_any (s := { s with toks := s.toks + k.draws }) hu hk h8 ho hd S (fun n => ?_) fun j hj => ?_)
  · exact wpAny_bind (wpAny_rule (wpAny_updateDictKeys (hz := hz) (s := { s with toks := s.toks + k.draws }) ho hd
      (q _ _ (ep + 1) ⟨_, Heap.get?_update_self _ ho (Obj.isFreed_of_dict (Obj.data_mapDictKeys hd _)), hx.mapDictKeys _, Obj.data_mapDictKeys hd _⟩ (Heap.SameBut.update ..) (.inl ⟨n, rfl⟩))))
  · obtain ⟨e, he, _⟩ := S.to hj
    exact wpAny_bind (wpAny_rule (wpAny_bind (wpAny_updateDict (s := { s with toks := s.toks + k.draws }) ho hd (wpAny_point
      (q _ _ ep ⟨_, Heap.get?_update_self _ ho (Obj.isFreed_of_dict (Obj.data_mapDict hd _)), hx.mapDict _, Obj.data_mapDict hd _⟩ (Heap.SameBut.update ..) (.inr ⟨j, e, hj, he, rfl⟩))))))
theorem contains_any {d : Addr} {o : Obj} {es : Array DictEntry} {ep : Nat} {ks : List NestedKey} {k : NestedKey} {u : Value} {Q : Bool → Shared → Prop} (hu : A.units + 9 < cLine) (hk : NestedIs s.heap k u) (h8 : k.depth ≤ 8) (hm : (d == sysModules) = false)
    (ho : s.heap.get? d = some o) (hx : o.ExactDict) (hd : o.data = .dict es ep) (S : Ks w s.heap ks es) (q : Q (decide (k ∈ ks)) { s with toks := s.toks + k.draws }) : wpAny (model prog w) A (contains (.ref d) u) Q E s := by
  have ty : s.TypeIs (.ref d) "dict" := ⟨o, ho, hx.1⟩
  refine wpAny_contains_slot ty F.slot_dict_contains ?_
  refine call_meetsIn F.slot_dict_contains ty F.entry_dict_contains (F.args_dict_contains_2 _ _) (S := fun A' R s' => A' = A ∧ s' = s ∧ R (.ok (.ret (.bool (decide (k ∈ ks))))) { s with toks := s.toks + k.draws }) (fun A' R s' hS => ?_) ⟨rfl, rfl, wpAny_truthy_bool q⟩
  obtain ⟨rfl, rfl, hq⟩ := hS
  show wpAny _ _ (dictGet d u >>= _) _ _ _
  refine wpAny_bind (dictGet_any (by show A'.units + 1 + 8 < cLine; omega) hk h8 ho hd S (fun n => ?_) fun j e hj he => ?_)
  · rw [decide_eq_false n] at hq
    show wpAny _ _ (Builtin.Dict.pendingKey? d u >>= _) _ _ _
    exact wpAny_bind (wpAny_pendingKey_other hm (wpAny_pure hq))
  · rw [decide_eq_true (List.mem_of_getElem? hj)] at hq
    exact wpAny_pure hq
theorem setItem_any {d : Addr} {o : Obj} {es : Array DictEntry} {ep : Nat} {ks : List NestedKey} {k : NestedKey} {u v : Value} {Q : Unit → Shared → Prop} (hu : A.units + 9 < cLine) (hk : NestedIs s.heap k u) (h8 : k.depth ≤ 8)
    (ho : s.heap.get? d = some o) (hx : o.ExactDict) (hd : o.data = .dict es ep) (S : Ks w s.heap ks es) (hz : es.size ≤ sizeLine)
    (q : ∀ (h' : Heap) (es' : Array DictEntry) (ep' : Nat), h'.DictRaw d es' ep' → Heap.SameBut d s.heap h' →
      ((k ∉ ks ∧ es' = es.push ⟨k.hash w, u, v⟩) ∨ ∃ (j : Nat) (e : DictEntry), ks[j]? = some k ∧ es[j]? = some e ∧ es' = es.modify j (fun e => { e with val := v })) → Q () { s with heap := h', toks := s.toks + k.draws }) :
    wpAny (model prog w) A (setItem (.ref d) u v) Q E s := by
  have ty : s.TypeIs (.ref d) "dict" := ⟨o, ho, hx.1⟩
  unfold setItem
  try with_reducible refine wpAny_holding ?_
  refine wpAny_bind (wpAny_sequenceKey ty (by decide) (wpAny_bind (wpAny_callSpecial?_slot (name := Str.ofString "__setitem__") ty slot_dict_setitem (wpAny_call_entry slot_dict_setitem ty entry_dict_setitem ?_ (args_dict_setitem _ _ _)))))
  show wpAny _ _ (Builtin.Dict.notOrdered "__setitem__" _ >>= _) _ _ s
  refine wpAny_bind (wpAny_notOrdered_dict ty ?_)
  show wpAny _ _ (dictSet d u v >>= _) _ _ s
  exact wpAny_bind (dictSet_any (by show A.units + 1 + 8 < cLine; omega) hk h8 ho hx hd S hz fun h' es' ep' a b c => wpAny_pure ⟨.none, rfl, wpAny_pure (q h' es' ep' a b c)⟩)
end
end My

set_option linter.all false
namespace My
open PySem PySem.Spec PyProof.Rows L2
/-! ### keys and dicts over the abstract heap -/
mutual
inductive KeyV (H : Hp) : NestedKey → V → Prop
  | non : KeyV H .none .non
  | bl (b : Bool) : KeyV H (.num (if b = true then 1 else 0)) (.bl b)
  | int (i : Int) : KeyV H (.num i) (.int i)
  | str (x : Str) : KeyV H (.text x) (.str x)
  | tup {a : Addr} {xs : List V} {ks : List NestedKey} : H a = some (.tup xs) → KeyVs H ks xs → KeyV H (.tup ks) (.ref a)
inductive KeyVs (H : Hp) : List NestedKey → List V → Prop
  | nil : KeyVs H [] []
  | cons {k : NestedKey} {v : V} {ks : List NestedKey} {vs : List V} : KeyV H k v → KeyVs H ks vs → KeyVs H (k :: ks) (v :: vs)
end
mutual
theorem KeyV.up {H H' : Hp} (e : ∀ b xs, H b = some (.tup xs) → H' b = some (.tup xs)) : ∀ {k : NestedKey} {v : V}, KeyV H k v → KeyV H' k v
  | _, _, .non => .non
  | _, _, .bl b => .bl b
  | _, _, .int i => .int i
  | _, _, .str x => .str x
  | _, _, .tup h t => .tup (e _ _ h) (KeyVs.up e t)
theorem KeyVs.up {H H' : Hp} (e : ∀ b xs, H b = some (.tup xs) → H' b = some (.tup xs)) : ∀ {k : List NestedKey} {v : List V}, KeyVs H k v → KeyVs H' k v
  | _, _, .nil => .nil
  | _, _, .cons h t => .cons (KeyV.up e h) (KeyVs.up e t)
end
theorem KeyV.mono {H H' : Hp} (e : Same H H') {k : NestedKey} {v : V} (h : KeyV H k v) : KeyV H' k v := h.up fun b xs z => e b _ z
section
variable {X : Cx} {pins : List (Addr × Obj)} {σ : L2.St} {H : Hp} {s : Shared}
mutual
theorem KeyV.is (I : Inv X pins σ H s) : ∀ {k : NestedKey} {v : V} {u : Value}, KeyV H k v → RelV v u → NestedIs s.heap k u
  | _, _, _, .non, r => by cases (show _ = Value.none from r); exact .none
  | _, _, _, .bl b, r => by cases (show _ = Value.bool b from r); exact .bool rfl
  | _, _, _, .int i, r => by obtain ⟨t, rfl⟩ := (show ∃ t, _ = Value.int i t from r); exact .int _ _
  | _, _, _, .str x, r => by obtain ⟨t, rfl⟩ := (show ∃ t, _ = Value.str x t from r); exact .text _ _
  | _, _, u, @KeyV.tup _ a xs ks h t, r => by
    cases (show u = Value.ref a from r)
    obtain ⟨_, its, rv, o, ho, hc, n, hd⟩ := I.hok _ _ h
    exact .tup ho hc hd (KeyVs.is I t rv)
theorem KeyVs.is (I : Inv X pins σ H s) : ∀ {ks : List NestedKey} {vs : List V} {us : List Value}, KeyVs H ks vs → Vals vs us → NestedAll s.heap ks us
  | _, _, _, .nil, r => by cases r; exact .nil
  | _, _, _, .cons h t, r => by
    cases r with
    | cons r1 r2 => exact .cons (KeyV.is I h r1) (KeyVs.is I t r2)
end
end
/-- an entry: its key, the key as it stands, its value -/
abbrev Kvv := NestedKey × V × V
def EnV (w : World) (H : Hp) (x : Kvv) (e : DictEntry) : Prop := KeyV H x.1 x.2.1 ∧ RelV x.2.1 e.key ∧ e.hash = x.1.hash w ∧ x.1.depth ≤ 8 ∧ RelV x.2.2 e.val
structure Ents (w : World) (H : Hp) (kvs : List Kvv) (es : Array DictEntry) : Prop where
  prd : Paired (EnV w H) kvs es.toList
  nod : (kvs.map (·.1)).Nodup
  lt : kvs.length ≤ sizeLine
theorem Ents.up {w : World} {H H' : Hp} {kvs : List Kvv} {es : Array DictEntry} (h : Ents w H kvs es) (e : ∀ b xs, H b = some (.tup xs) → H' b = some (.tup xs)) : Ents w H' kvs es :=
  ⟨Paired.mapP h.prd fun a b x => ⟨x.1.up e, x.2⟩, h.nod, h.lt⟩
theorem Ents.len {w : World} {H : Hp} {kvs : List Kvv} {es : Array DictEntry} (h : Ents w H kvs es) : kvs.length = es.size := by
  have := Paired.length h.prd
  rw [Array.length_toList] at this
  exact this
theorem Ents.get {w : World} {H : Hp} {kvs : List Kvv} {es : Array DictEntry} (h : Ents w H kvs es) {i : Nat} {x : Kvv} (e : kvs[i]? = some x) : ∃ en, es[i]? = some en ∧ EnV w H x en := by
  obtain ⟨b, h1, h2⟩ := paired_get h.prd e
  exact ⟨b, by rw [← h1, Array.getElem?_toList], h2⟩
theorem Ents.back {w : World} {H : Hp} {kvs : List Kvv} {es : Array DictEntry} (h : Ents w H kvs es) {i : Nat} {en : DictEntry} (e : es[i]? = some en) : ∃ x, kvs[i]? = some x ∧ EnV w H x en := by
  have hi : i < kvs.length := by rw [h.len]; exact (Array.getElem?_eq_some_iff.mp e).1
  obtain ⟨b, h1, h2⟩ := h.get (List.getElem?_eq_getElem hi)
  rw [e] at h1
  cases h1
  exact ⟨_, List.getElem?_eq_getElem hi, h2⟩
def rawO (d : Addr) (es : Array DictEntry) (ep : Nat) : HO := .ext fun h => h.DictRaw d es ep ∧ (d == sysModules) = false
/-- a dict of one's own, to be changed -/
def DN (w : World) (H : Hp) (d : Addr) (kvs : List Kvv) : Prop := ∃ es ep, H d = some (rawO d es ep) ∧ Ents w H kvs es
def IsDU (d : Addr) (u : HO) : Prop := (∃ kvs, u = .dK kvs) ∨ ∃ es ep, u = rawO d es ep
/-- a dict that stands still -/
def DF (w : World) (H : Hp) (d : Addr) (kvs : List Kvv) : Prop := ∃ od u es ep, H d = some (.frz od u) ∧ od.ExactDict ∧ od.data = .dict es ep ∧ (d == sysModules) = false ∧ Ents w H kvs es ∧ IsDU d u
theorem DF.mono {w : World} {H H' : Hp} {d : Addr} {kvs : List Kvv} (h : DF w H d kvs) (e : Same H H') : DF w H' d kvs := by
  obtain ⟨od, u, es, ep, h1, h2, h3, h4, h5, h6⟩ := h
  exact ⟨od, u, es, ep, e _ _ h1, h2, h3, h4, h5.up (fun b xs z => e b _ z), h6⟩
/-- a dict that may be read: any of the three -/
def kN : Key → NestedKey
  | .inl i => .num i
  | .inr x => .text x
theorem kN_inj {a b : Key} (h : kN a = kN b) : a = b := by
  cases a <;> cases b <;> simp only [kN, NestedKey.num.injEq, NestedKey.text.injEq] at h
  · rw [h]
  · cases h
  · cases h
  · rw [h]
theorem kN_kv (H : Hp) (k : Key) : KeyV H (kN k) (kV k) := by cases k <;> constructor
theorem kN_hash (w : World) (k : Key) : (kN k).hash w = keyH w k := by cases k <;> (simp only [kN, NestedKey.hash]; rfl)
theorem kN_depth (k : Key) : (kN k).depth ≤ 8 := by cases k <;> (simp only [kN, NestedKey.depth]; omega)
def kvvs (kvs : List (Key × V)) : List Kvv := kvs.map fun kv => (kN kv.1, kV kv.1, kv.2)
section
variable {X : Cx} {pins : List (Addr × Obj)} {σ : L2.St} {H : Hp} {s : Shared}
theorem pairs_ents {P : Program} {w : World} {H : Hp} : ∀ {kvs : List (Key × V)} {vs : List (Key × Value)} {es : List DictEntry}, KV kvs vs → Pairs (mixKind P w) es vs → (∀ e ∈ es, ∃ k, keyIs k e.key = true ∧ e.hash = keyH w k) → Paired (EnV w H) (kvvs kvs) es
  | _, _, _, .nil, .nil, _ => .nil
  | (k, v) :: _, (k', v') :: _, e :: es, .cons ⟨h1, h2⟩ t, .cons g1 g2 g3, hh => by
    have e1 : k = k' := h1
    subst e1
    refine .cons ⟨kN_kv H k, relV_key (show keyIs k _ = true from g1), ?_, kN_depth k, ?_⟩ (pairs_ents t g3 fun x hx => hh x (List.mem_cons_of_mem _ hx))
    · obtain ⟨k2, q1, q2⟩ := hh e List.mem_cons_self
      have e2 : k = k2 := (mixKind P w).inj _ _ _ (show keyIs k _ = true from g1) q1
      rw [q2, e2, kN_hash]
    · have e2 : e.val = v' := g2
      rw [e2]; exact h2
theorem kvvs_nod {kvs : List (Key × V)} {vs : List (Key × Value)} (r : KV kvs vs) (n : (vs.map (·.1)).Nodup) : ((kvvs kvs).map (·.1)).Nodup := by
  have e1 : kvs.map (·.1) = vs.map (·.1) := by
    have : ∀ {kvs : List (Key × V)} {vs : List (Key × Value)}, KV kvs vs → kvs.map (·.1) = vs.map (·.1) := by
      intro kvs vs r
      unfold KV at r
      induction r with
      | nil => rfl
      | cons h _ ih => rw [List.map_cons, List.map_cons, ih, h.1]
    exact this r
  unfold kvvs
  rw [List.map_map]
  have e2 : kvs.map ((fun x : Kvv => x.1) ∘ fun kv => (kN kv.1, kV kv.1, kv.2)) = (kvs.map (·.1)).map kN := by rw [List.map_map]; rfl
  rw [e2, e1]
  exact List.Pairwise.map kN (fun a b h z => h (kN_inj z)) n
/-- a dict as the layer knows it, read entry by entry -/
theorem dk_raw {d : Addr} {kvs : List (Key × V)} (hok : HOk X.prog X.w H s.heap) (h : ObjOk X.prog X.w H s.heap d (.dK kvs)) : ∃ o es ep, s.heap.get? d = some o ∧ o.ExactDict ∧ o.data = .dict es ep ∧ (d == sysModules) = false ∧ ∀ H2, Ents X.w H2 (kvvs kvs) es := by
  obtain ⟨z, hs, vs, kv, o, es, ep, ho, hx, hd, hk, hp, hn⟩ := h
  refine ⟨o, es, ep, ho, hx, hd, hs, fun H2 => ⟨pairs_ents kv hp fun e he => ?_, kvvs_nod kv hn, by unfold kvvs; rw [List.length_map]; exact z⟩⟩
  exact hk e (Array.mem_toList_iff.mp he)
theorem DN.raw {d : Addr} {kvs : List Kvv} (hok : HOk X.prog X.w H s.heap) (h : DN X.w H d kvs) : ∃ o es ep, H d = some (rawO d es ep) ∧ s.heap.get? d = some o ∧ o.ExactDict ∧ o.data = .dict es ep ∧ (d == sysModules) = false ∧ Ents X.w H kvs es := by
  obtain ⟨es, ep, h1, h2⟩ := h
  obtain ⟨⟨⟨o, ho, hx, hd⟩, hm⟩, _⟩ := hok _ _ h1
  exact ⟨o, es, ep, h1, ho, hx, hd, hm, h2⟩
theorem DF.raw {d : Addr} {kvs : List Kvv} (hok : HOk X.prog X.w H s.heap) (h : DF X.w H d kvs) : ∃ od u es ep, H d = some (.frz od u) ∧ s.heap.get? d = some od ∧ od.ExactDict ∧ od.data = .dict es ep ∧ (d == sysModules) = false ∧ Ents X.w H kvs es := by
  obtain ⟨od, u, es, ep, h1, h2, h3, h4, h5, _⟩ := h
  exact ⟨od, u, es, ep, h1, (hok _ _ h1).1, h2, h3, h4, h5⟩
theorem Ents.ks {kvs : List Kvv} {es : Array DictEntry} (I : Inv X pins σ H s) (h : Ents X.w H kvs es) : Ks X.w s.heap (kvs.map (·.1)) es := by
  refine ⟨by rw [List.length_map]; exact h.len, fun i e he => ?_, h.nod⟩
  obtain ⟨x, h1, h2⟩ := h.back he
  exact ⟨x.1, by rw [List.getElem?_map, h1]; rfl, h2.1.is I h2.2.1, h2.2.2.1, h2.2.2.2.1⟩
theorem tup_upd {H : Hp} {d : Addr} {o : HO} {u : HO} (h : H d = some u) (n : ∀ xs, u ≠ .tup xs) : ∀ b xs, H b = some (.tup xs) → upd H d o b = some (.tup xs) := fun b xs e => by
  rw [upd_ne fun z => by rw [z, h] at e; cases e; exact n _ rfl]; exact e
/-! ### a dict is made to stand still -/
def FrzS (w : World) (H : Hp) (d : Addr) (Q : Hp → Prop) : Prop :=
  (∃ kvs, H d = some (.dK kvs) ∧ ∀ od, DF w (upd H d (.frz od (.dK kvs))) d (kvvs kvs) → Q (upd H d (.frz od (.dK kvs)))) ∨
  ∃ kvs es ep, H d = some (rawO d es ep) ∧ Ents w H kvs es ∧ ∀ od, DF w (upd H d (.frz od (rawO d es ep))) d kvs → Q (upd H d (.frz od (rawO d es ep)))
theorem FrzS.run {d : Addr} {Q : Hp → Prop} (I : Inv X pins σ H s) (h : FrzS X.w H d Q) : ∃ H', Inv X pins σ H' s ∧ Q H' := by
  rcases h with ⟨kvs, hd, q⟩ | ⟨kvs, es, ep, hd, he, q⟩
  · obtain ⟨od, J⟩ := I.lock hd trivial
    refine ⟨_, J, q od ?_⟩
    obtain ⟨g1, g2⟩ := J.hok d _ upd_same
    obtain ⟨o, es, ep, ho, hx, hdt, hm, hE⟩ := dk_raw J.hok g2
    rw [g1] at ho
    cases ho
    exact ⟨od, _, es, ep, upd_same, hx, hdt, hm, hE _, .inl ⟨_, rfl⟩⟩
  · obtain ⟨od, J⟩ := I.lock hd trivial
    refine ⟨_, J, q od ?_⟩
    obtain ⟨g1, ⟨⟨o, ho, hx, hdt⟩, hm⟩, _⟩ := J.hok d _ upd_same
    rw [g1] at ho
    cases ho
    exact ⟨od, _, es, ep, upd_same, hx, hdt, hm, he.up (tup_upd hd fun xs z => nomatch z), .inr ⟨_, _, rfl⟩⟩
end
def tFrz (w : World) (te : TE) : TE := fun σ H Q => te σ H fun v H1 => ∃ d, FrzS w H1 d (fun H2 => Q v H2)
theorem pe_frz {X : Cx} {e : Expr} {te : TE} (h : PE X e te) : PE X e (tFrz X.w te) := by
  refine ⟨fun pins s σ H Q I hw => ?_⟩
  refine thn (h.run pins s σ H _ I hw) fun u s1 ⟨x, H1, I1, r, d, q⟩ => ?_
  obtain ⟨H2, I2, q⟩ := q.run I1
  exact ⟨x, H2, I2, r, q⟩
end My

set_option linter.all false
namespace My
open PySem PySem.Spec PyProof.Rows L2
/-! ### d[k] = v, any key -/
def putN (kvs : List Kvv) (k : NestedKey) (i v : V) : List Kvv := if k ∈ kvs.map (·.1) then kvs.map (fun x => if x.1 = k then (x.1, x.2.1, v) else x) else kvs ++ [(k, i, v)]
theorem putN_new {kvs : List Kvv} {k : NestedKey} {i v : V} (h : k ∉ kvs.map (·.1)) : putN kvs k i v = kvs ++ [(k, i, v)] := if_neg h
theorem putN_old {kvs : List Kvv} {k : NestedKey} {i v : V} (h : k ∈ kvs.map (·.1)) : putN kvs k i v = kvs.map (fun x => if x.1 = k then (x.1, x.2.1, v) else x) := if_pos h
theorem putN_keys_old {kvs : List Kvv} {k : NestedKey} {v : V} : (kvs.map (fun x => if x.1 = k then (x.1, x.2.1, v) else x)).map (·.1) = kvs.map (·.1) := by
  rw [List.map_map]
  refine List.map_congr_left fun x _ => ?_
  show (if x.1 = k then (x.1, x.2.1, v) else x).1 = x.1
  split <;> rfl
theorem paired_app {α β : Type} {G : α → β → Prop} : ∀ {l1 : List α} {l2 : List β} {m1 : List α} {m2 : List β}, Paired G l1 l2 → Paired G m1 m2 → Paired G (l1 ++ m1) (l2 ++ m2)
  | _, _, _, _, .nil, h => h
  | _, _, _, _, .cons a t, h => .cons a (paired_app t h)
theorem paired_mod {w : World} {H : Hp} {k : NestedKey} {v : V} {u : Value} (r : RelV v u) : ∀ {kvs : List Kvv} {es : List DictEntry} {j : Nat}, Paired (EnV w H) kvs es → (kvs.map (·.1)).Nodup → (kvs.map (·.1))[j]? = some k → Paired (EnV w H) (kvs.map (fun x => if x.1 = k then (x.1, x.2.1, v) else x)) (es.modify j (fun e => { e with val := u }))
  | _, _, _, .nil, _, e => by simp at e
  | x :: kvs, e :: es, 0, .cons h t, n, hj => by
    simp only [List.map_cons, List.getElem?_cons_zero, Option.some.injEq] at hj
    rw [List.map_cons, List.nodup_cons] at n
    rw [List.map_cons, List.modify_zero_cons, if_pos hj]
    refine .cons ⟨h.1, h.2.1, h.2.2.1, h.2.2.2.1, r⟩ ?_
    have : kvs.map (fun x => if x.1 = k then (x.1, x.2.1, v) else x) = kvs := by
      conv => rhs; rw [← List.map_id kvs]
      refine List.map_congr_left fun y hy => if_neg fun z => n.1 ?_
      rw [hj, ← z]
      exact List.mem_map.mpr ⟨y, hy, rfl⟩
    rw [this]
    exact t
  | x :: kvs, e :: es, j + 1, .cons h t, n, hj => by
    simp only [List.map_cons, List.getElem?_cons_succ] at hj
    rw [List.map_cons, List.nodup_cons] at n
    rw [List.map_cons, List.modify_succ_cons]
    rw [if_neg fun z => n.1 (by rw [z]; exact List.mem_of_getElem? hj)]
    exact .cons h (paired_mod r t n.2 hj)
theorem ents_put {w : World} {H H' : Hp} {kvs : List Kvv} {es es' : Array DictEntry} {k : NestedKey} {i v : V} {iu u : Value} (h : Ents w H kvs es) (hk : KeyV H k i) (ri : RelV i iu) (h8 : k.depth ≤ 8) (rv : RelV v u) (hz : kvs.length < sizeLine)
    (up : ∀ b xs, H b = some (.tup xs) → H' b = some (.tup xs))
    (c : (k ∉ kvs.map (·.1) ∧ es' = es.push ⟨k.hash w, iu, u⟩) ∨ ∃ (j : Nat) (e : DictEntry), (kvs.map (·.1))[j]? = some k ∧ es[j]? = some e ∧ es' = es.modify j (fun e => { e with val := u })) : Ents w H' (putN kvs k i v) es' := by
  rcases c with ⟨n, rfl⟩ | ⟨j, e, hj, he, rfl⟩
  · rw [putN_new n]
    refine ⟨?_, ?_, by rw [List.length_append, List.length_singleton]; omega⟩
    · rw [Array.toList_push]
      exact paired_app (h.up up).prd (.cons ⟨hk.up up, ri, rfl, h8, rv⟩ .nil)
    · rw [List.map_append, List.nodup_append]
      refine ⟨h.nod, by simp, fun x hx y hy z => n ?_⟩
      simp only [List.map_cons, List.map_nil, List.mem_singleton] at hy
      rw [← hy, ← z]; exact hx
  · rw [putN_old (List.mem_of_getElem? hj)]
    refine ⟨?_, by rw [putN_keys_old]; exact h.nod, by rw [List.length_map]; exact h.lt⟩
    have := paired_mod (w := w) rv (h.up up).prd h.nod hj
    have e2 : (es.modify j (fun e => { e with val := u })).toList = es.toList.modify j (fun e => { e with val := u }) := by
      cases es; simp
    rw [e2]; exact this
def rSetN (w : World) : V → V → V → Hp → (Hp → Prop) → Prop := fun o i v H Q => ∃ (d : Addr) (k : NestedKey), o = .ref d ∧ KeyV H k i ∧ k.depth ≤ 8 ∧
  ((∃ kvs, H d = some (.dK kvs) ∧ kvs.length < sizeLine ∧ ∀ H', (∀ b, b ≠ d → H' b = H b) → DN w H' d (putN (kvvs kvs) k i v) → Q H') ∨
   ∃ kvs, DN w H d kvs ∧ kvs.length < sizeLine ∧ ∀ H', (∀ b, b ≠ d → H' b = H b) → DN w H' d (putN kvs k i v) → Q H')
section
variable {X : Cx} {pins : List (Addr × Obj)} {σ : L2.St} {H : Hp} {s : Shared}
theorem ext_ok {P : Program} {w : World} {H : Hp} {h : Heap} {d : Addr} {es : Array DictEntry} {ep : Nat} (r : h.DictRaw d es ep) (m : (d == sysModules) = false) : ObjOk P w H h d (rawO d es ep) :=
  ⟨⟨r, m⟩, (let ⟨o, e, _⟩ := r; ⟨o, e⟩), fun h1 h2 q k => ⟨(let ⟨o, e, x⟩ := q.1; ⟨o, k o e, x⟩), q.2⟩⟩
theorem set_any (hu : X.A.units + 9 < cLine) : PSet X (rSetN X.w) := by
  intro pins s σ H o i v ov iv u Q I ro ri rv h
  obtain ⟨d, k, rfl, hk, h8, h⟩ := h
  obtain rfl : ov = Value.ref d := ro
  have key : ∀ {kvs : List Kvv} {ob : Obj} {es : Array DictEntry} {ep : Nat} {hd : HO}, H d = some hd → Mut (some hd) → (∀ xs, hd ≠ .tup xs) → s.heap.get? d = some ob → ob.ExactDict → ob.data = .dict es ep → (d == sysModules) = false → Ents X.w H kvs es → kvs.length < sizeLine →
      (∀ H', (∀ b, b ≠ d → H' b = H b) → DN X.w H' d (putN kvs k i v) → Q H') → wpAny (model X.prog X.w) X.A (setItem (.ref d) iv u) (fun _ s' => ∃ H', Inv X pins σ H' s' ∧ Q H') X.xe s := by
    intro kvs ob es ep hd hH mu nt ho hx hdt hm hE hz q
    refine setItem_any hu (hk.is I ri) h8 ho hx hdt (hE.ks I) (by rw [← hE.len]; exact hE.lt) fun h' es' ep' hr hs hc => ?_
    have up : ∀ b xs, H b = some (.tup xs) → upd H d (rawO d es' ep') b = some (.tup xs) := tup_upd hH nt
    refine ⟨upd H d (rawO d es' ep'), I.write (x := d) (e := d) (by rw [hH]; exact mu) (.inl rfl) (fun b u hb e => (hs.2 b hb).trans e) (let ⟨o, e, _⟩ := hr; ⟨o, e⟩) (ext_ok hr hm), q _ (fun b hb => upd_ne hb) ⟨es', ep', upd_same, ents_put hE hk ri h8 rv hz up hc⟩⟩
  rcases h with ⟨kvs, hd, hz, q⟩ | ⟨kvs, hd, hz, q⟩
  · obtain ⟨ob, es, ep, ho, hx, hdt, hm, hE⟩ := dk_raw I.hok (I.hok _ _ hd)
    exact key hd trivial (fun _ z => nomatch z) ho hx hdt hm (hE H) (by unfold kvvs; rw [List.length_map]; exact hz) q
  · obtain ⟨ob, es, ep, hH, ho, hx, hdt, hm, hE⟩ := hd.raw I.hok
    exact key hH trivial (fun _ z => nomatch z) ho hx hdt hm hE hz q
/-! ### {k: v}, one entry, any key -/
def tDisp1 (w : World) (tk tv : TE) : TE := fun σ H Q => ∀ p, H p = none → tk σ (upd H p (rawO p #[] 0)) fun x H1 => tv σ H1 fun y H2 => ∃ k : NestedKey, H2 p = some (rawO p #[] 0) ∧ KeyV H2 k x ∧ k.depth ≤ 8 ∧
  ∀ H3, (∀ b, b ≠ p → H3 b = H2 b) → DN w H3 p [(k, x, y)] → Q (.ref p) H3
theorem pe_disp1 {ek ev : Expr} {tk tv : TE} {pos : Pos} (hu : X.A.units + 8 < cLine) (hk : PE X ek tk) (hv : PE X ev tv) : PE X (.Dict [some ek] [ev] pos) (tDisp1 X.w tk tv) := by
  refine ⟨fun pins s σ H Q I q => ?_⟩
  have hn := I.hok.fresh (Nat.le_refl s.heap.objs.size)
  have hm : (s.heap.objs.size == sysModules) = false := beq_eq_false_iff_ne.mpr (Nat.ne_of_gt I.big)
  have I1 := I.laid (a := s.heap.objs.size) (o := rawO s.heap.objs.size #[] 0) (h' := s.heap.push { cls := .type "dict", data := .dict #[] }) (t' := s.toks) (fun _ _ q => Heap.get?_push_of_some _ q) (Nat.le_refl _)
    (ext_ok ⟨_, Heap.get?_push_size _ rfl, ⟨rfl, rfl, rfl⟩, rfl⟩ hm)
  rw [arm_eval_Dict, zip_pairTrees _ _ _ _ rfl rfl, dictDisplay_pairs _ (by simp [pairTrees]) (by simp [pairTrees])]
  refine wpAny_bind (wpAny_standAt (wpAny_bind ?_))
  unfold subDict
  refine wpAny_bind (wpAny_alloc ?_)
  refine wpAny_bind (wpAny_holding ?_)
  rw [if_pos (by simp [pairTrees])]
  refine wpAny_bind (pairTrees_cons_walk ?_)
  refine thn (hk.run pins _ σ _ _ I1 (q _ hn)) fun u1 s1 ⟨x, H1, J1, r1, q1⟩ => ?_
  refine thn (hv.run pins _ σ _ _ J1 q1) fun u2 s2 ⟨y, H2, J2, r2, k, hp, hkv, h8, q2⟩ => ?_
  refine pairTrees_nil_walk (wpAny_holding ?_)
  obtain ⟨⟨⟨ob, ho, hx, hd⟩, _⟩, _⟩ := J2.hok _ _ hp
  rw [List.forIn_cons]
  refine wpAny_bind (wpAny_bind (wpAny_bind (dictSet_any hu (hkv.is J2 r1) h8 ho hx hd (ks := []) ⟨rfl, (fun i e he => by simp at he), List.nodup_nil⟩ (Nat.zero_le _) fun h' es' ep' hr hs hc => wpAny_pure ?_)))
  dsimp only
  rw [List.forIn_nil]
  have up : ∀ b xs, H2 b = some (.tup xs) → upd H2 s.heap.objs.size (rawO s.heap.objs.size es' ep') b = some (.tup xs) := tup_upd hp fun xs z => nomatch z
  refine wpAny_pure (wpAny_pure (wpAny_pure (wpAny_pure ⟨.ref _, upd H2 s.heap.objs.size (rawO s.heap.objs.size es' ep'), J2.write (x := s.heap.objs.size) (e := s.heap.objs.size) (by rw [hp]; trivial) (.inl rfl) (fun b u hb e => (hs.2 b hb).trans e) (let ⟨o, e, _⟩ := hr; ⟨o, e⟩) (ext_ok hr hm), rfl,
    q2 _ (fun b hb => upd_ne hb) ⟨es', ep', upd_same, ?_⟩⟩)))
  have := ents_put (kvs := []) (es := #[]) (w := X.w) (H := H2) (H' := upd H2 s.heap.objs.size (rawO s.heap.objs.size es' ep')) ⟨.nil, List.nodup_nil, Nat.zero_le _⟩ hkv r1 h8 r2 (by show 0 < sizeLine; decide) up hc
  rw [putN_new (by simp)] at this
  exact this
/-! ### dict(l), l a list of pairs -/
def putsN (kvs more : List Kvv) : List Kvv := more.foldl (fun acc x => putN acc x.1 x.2.1 x.2.2) kvs
theorem putN_len {kvs : List Kvv} {k : NestedKey} {i v : V} : (putN kvs k i v).length ≤ kvs.length + 1 := by
  unfold putN
  split
  · rw [List.length_map]; omega
  · simp
theorem putsN_len : ∀ (more kvs : List Kvv), (putsN kvs more).length ≤ kvs.length + more.length
  | [], _ => Nat.le_refl _
  | x :: r, kvs => by
    have h1 := putsN_len r (putN kvs x.1 x.2.1 x.2.2)
    have h2 := putN_len (kvs := kvs) (k := x.1) (i := x.2.1) (v := x.2.2)
    show (putsN (putN kvs x.1 x.2.1 x.2.2) r).length ≤ _
    rw [List.length_cons]; omega
theorem putsN_snoc (kvs more : List Kvv) (x : Kvv) : putsN kvs (more ++ [x]) = putN (putsN kvs more) x.1 x.2.1 x.2.2 := by unfold putsN; rw [List.foldl_append]; rfl
def rDictP (w : World) (K : PySem.W.Frag) : List V → Hp → VK → Prop := fun xs H Q => ∃ (a : Addr) (zs : List (Addr × Kvv)), xs = [.ref a] ∧ SqL K H a (zs.map fun z => V.ref z.1) ∧ zs.length ≤ 1000 ∧
  (∀ z ∈ zs, H z.1 = some (.tup [z.2.2.1, z.2.2.2]) ∧ KeyV H z.2.1 z.2.2.1 ∧ z.2.1.depth ≤ 8) ∧ ∀ p H', H p = none → (∀ b, b ≠ p → H' b = H b) → DN w H' p (putsN [] (zs.map (·.2))) → Q (.ref p) H'
theorem call_dictP' (hcalm : X.calm = true) (hu : X.A.units + 64 < cLine) : CallR X (.type "dict") (rDictP X.w X.K) := by
  intro pins s σ H xs us Q I r q
  obtain ⟨a, zs, ex, hq, h1k, hz, q⟩ := q
  subst ex
  obtain ⟨u, eu, rx⟩ := vals1 r
  subst eu
  cases rx
  obtain ⟨its, rv, pl, hsz⟩ := I.list hq
  obtain ⟨o, n, ho, hc, hd, hdat⟩ := pl
  have ei : its = zs.map fun z => Value.ref z.1 := by
    have := refs_at (ps := zs.map (·.1)) (us := its) (by rw [List.map_map]; exact rv)
    rw [this, List.map_map]; rfl
  subst ei
  have hm : (s.heap.objs.size == sysModules) = false := beq_eq_false_iff_ne.mpr (Nat.ne_of_gt I.big)
  -- the pairs as they stand
  have look : ∀ z ∈ zs, ∃ (k v : Value) (o2 : Obj) (n2 : Nat), s.heap.get? z.1 = some o2 ∧ o2.cls = .type "tuple" ∧ o2.data = .seq #[k, v] n2 ∧ RelV z.2.2.1 k ∧ RelV z.2.2.2 v := fun z hzm => by
    obtain ⟨_, its, rv2, o2, ho2, hc2, n2, hd2⟩ := I.hok _ _ (hz z hzm).1
    obtain ⟨x1, x2, ei2, r1, r2⟩ := vals2 rv2
    subst ei2
    exact ⟨x1, x2, o2, n2, ho2, hc2, hd2, r1, r2⟩
  have mk : ∃ ps : List (Value × Value), ps.length = zs.length ∧ ∀ (j : Nat) (z : Addr × Kvv), zs[j]? = some z → ∃ k v, ps[j]? = some (k, v) ∧ RelV z.2.2.1 k ∧ RelV z.2.2.2 v ∧ s.heap.IsTuple z.1 #[k, v] := by
    clear q hq rv ho hdat hd hc h1k hsz
    induction zs with
    | nil => exact ⟨[], rfl, fun j z e => by simp at e⟩
    | cons z r ih =>
      obtain ⟨ps, l, h⟩ := ih (fun y hy => hz y (List.mem_cons_of_mem _ hy)) fun y hy => look y (List.mem_cons_of_mem _ hy)
      obtain ⟨k, v, o2, n2, g1, g2, g3, g4, g5⟩ := look z List.mem_cons_self
      refine ⟨(k, v) :: ps, by simp [l], fun j y e => ?_⟩
      cases j with
      | zero =>
        simp only [List.getElem?_cons_zero, Option.some.injEq] at e
        subst e
        exact ⟨k, v, rfl, g4, g5, o2, g1, g2, n2, g3⟩
      | succ j => exact h j y (by simpa using e)
  obtain ⟨ps, lps, hps⟩ := mk
  have psz : ∀ (j : Nat) (k v : Value), ps[j]? = some (k, v) → ∃ z, zs[j]? = some z ∧ RelV z.2.2.1 k ∧ RelV z.2.2.2 v ∧ s.heap.IsTuple z.1 #[k, v] := fun j k v e => by
    have hj : j < zs.length := by rw [← lps]; exact (List.getElem?_eq_some_iff.mp e).1
    obtain ⟨k2, v2, e2, r1, r2, r3⟩ := hps j _ (List.getElem?_eq_getElem hj)
    rw [e] at e2
    cases e2
    exact ⟨_, List.getElem?_eq_getElem hj, r1, r2, r3⟩
  let Tab : Nat → Heap → Prop := fun i h => ∃ es ep, h.DictRaw s.heap.objs.size es ep ∧ Ents X.w H (putsN [] ((zs.map (·.2)).take i)) es ∧ ∀ b o, s.heap.get? b = some o → h.get? b = some o
  have szT : ∀ i, (putsN [] ((zs.map (·.2)).take i)).length ≤ 1000 := fun i => by
    have := putsN_len ((zs.map (·.2)).take i) []
    rw [List.length_take, List.length_map, List.length_nil] at this
    omega
  refine PySem.call_dict_arg (PairArg.list a (zs.map fun z => Value.ref z.1).toArray (fun j => ((zs[j]?).map (·.1)).getD 0) ps) ⟨⟨o, n, ho, hc, hd, hdat⟩, by simp [lps], fun j k v e => ?_⟩ fun s1 hs1 hdf ok1 => ?_
  · obtain ⟨z, ez, _, _, r3⟩ := psz j k v e
    refine ⟨by simp [ez], .inl ?_⟩
    show s.heap.IsTuple (((zs[j]?).map (·.1)).getD 0) _
    rw [ez]; exact r3
  · subst hs1
    refine updateFrom_arg (Tab := Tab) (PairArg.list a (zs.map fun z => Value.ref z.1).toArray (fun j => ((zs[j]?).map (·.1)).getD 0) ps) .none (I.ok.hd hcalm) ok1 hdf ?_ ?_ ?_ ?_ ?_
    · refine ⟨#[], 0, ⟨_, Heap.get?_push_size _ rfl, ⟨rfl, rfl, rfl⟩, rfl⟩, ?_, fun b o e => Heap.get?_push_of_some _ e⟩
      exact ⟨.nil, List.nodup_nil, Nat.zero_le _⟩
    · rintro i h ⟨es, ep, ⟨o, e, _⟩, _⟩
      exact Heap.lt_size e
    · rintro i h h' wr' nd hw ⟨es, ep, ⟨o, e, x⟩, hE, old⟩ k
      refine ⟨es, ep, ⟨o, k _ _ nd e, x⟩, hE, fun b o e => k b o (fun hb => ?_) (old b o e)⟩
      rcases hw b hb with z | z
      · cases z
      · rw [show (s.heap.push { cls := .type "dict", data := .dict #[] }).get? b = some o from Heap.get?_push_of_some _ e] at z
        cases z
    · rintro i k v s' Q' E' hi hr ⟨es, ep, ⟨ob, hob, hx, hdt⟩, hE, old⟩ hT qs
      obtain ⟨z, ez, r1, r2, r3⟩ := psz i k v hr
      obtain ⟨g1, g2, g3⟩ := hz z (List.mem_of_getElem? ez)
      have lift : ∀ {kk : NestedKey} {u : Value}, NestedIs s.heap kk u → NestedIs s'.heap kk u := fun x => NestedIs.at (fun b o vs m e _ => old b o e) _ _ x
      have KS := hE.ks I
      refine dictSet_any (by show X.A.units + 1 + 1 + 8 < cLine; omega) (lift (g2.is I r1)) g3 hob hx hdt (ks := (putsN [] ((zs.map (·.2)).take i)).map (·.1)) ⟨KS.len, (fun i e he => let ⟨x, h1, h2, h3⟩ := KS.at' i e he; ⟨x, h1, lift h2, h3⟩), KS.nod⟩ (by rw [← hE.len]; exact hE.lt) fun h' es' ep' hr' hs' hc' => qs h' _ ⟨es', ep', hr', ?_, fun b o e => ?_⟩ hs'
      · have et : (zs.map (·.2)).take (i + 1) = (zs.map (·.2)).take i ++ [z.2] := by
          rw [List.take_add_one, List.getElem?_map, ez]; rfl
        rw [et, putsN_snoc]
        exact ents_put hE g2 r1 g3 r2 (by have := szT i; rw [sizeLine_eq]; omega) (fun b xs e => e) hc'
      · exact (hs'.2 b (fun hb => by
          rw [hb] at e
          exact absurd (Heap.lt_size e) (Nat.lt_irrefl _))).trans (old b o e)
    · rintro h' tk ⟨es, ep, hr, hE, old⟩ kp
      refine ⟨rfl, ?_⟩
      have up : ∀ b xs, H b = some (.tup xs) → upd H s.heap.objs.size (rawO s.heap.objs.size es ep) b = some (.tup xs) := fun b xs e => by
        rw [upd_ne (fun hb => by rw [hb, I.hok.fresh (Nat.le_refl _)] at e; cases e)]; exact e
      rw [lps, ← List.length_map (f := fun z : Addr × Kvv => z.2) (as := zs), List.take_length] at hE
      exact ⟨.ref _, upd H s.heap.objs.size (rawO s.heap.objs.size es ep), I.laid (t' := tk) (fun b o e => old b o e) (Nat.le_refl _) (ext_ok hr hm), rfl, q _ _ (I.hok.fresh (Nat.le_refl _)) (fun b hb => upd_ne hb) ⟨es, ep, upd_same, hE.up up⟩⟩
end
end My

set_option linter.all false
namespace My
open PySem PySem.Spec PyProof.Rows L2
/-! ### a dict that stands still: its length, its walks, what is in it -/
section
variable {prog : Program} {w : World} {A : Around} {E : Value → Shared → Prop} {s : Shared}
theorem len_raw {d : Addr} {es : Array DictEntry} {ep : Nat} {Q : Value → Shared → Prop} (hd : (d == sysModules) = false) (hm : s.heap.DictRaw d es ep) (hz : es.size ≤ sizeLine) (q : ∀ t s', s' = { s with toks := t } → Q (.int es.size (s.toks + 1)) s') : wpAny (model prog w) A (call (.builtin "len") [.ref d]) Q E s := by
  have ln : (es.size : Int) < 2 ^ 63 := by rw [sizeLine_eq] at hz; omega
  refine Calls.call_function_entry kind_len plain_len entry_len (args_len1 _) ?_
  unfold Builtin.«len»
  refine wpAny_bind (m := oneArg "len" _) (wpAny_pure ?_)
  refine wpAny_bind (m := callSpecial? (.ref d) (Str.ofString "__len__")) (wpAny_callSpecial?_slot (name := Str.ofString "__len__") hm.typeIs F.slot_dict_len
    (call_meetsIn F.slot_dict_len hm.typeIs F.entry_dict_len (F.args_dict_len_1 _) (meets_dict_len_raw d hd) ⟨es, ep, hm, ?_⟩))
  show wpAny _ _ _ _ _ { s with toks := s.toks + 1 }
  refine wpAny_bind (wpAny_holding (wpAny_pure (wpAny_bind (wpAny_letGo ?_))))
  show wpAny _ _ (if ((es.size : Nat) : Int) < 0 then _ else _) _ _ _
  rw [if_neg (by omega)]
  show wpAny _ _ (if ((es.size : Nat) : Int) ≥ 2 ^ 63 then _ else _) _ _ _
  rw [if_neg (by omega)]
  exact wpAny_bind (wpAny_mkInt (wpAny_pure ⟨_, rfl, q _ _ rfl⟩))
theorem meets_vals_raw {d : Addr} (hd : (d == sysModules) = false) :
    MeetsIn prog w (Builtin.«dict.values» ⟨[.ref d], []⟩) (fun _ R s => (∃ es ep, s.heap.DictRaw d es ep) ∧ R (.ok (.ret (.ref s.heap.objs.size))) { s with heap := s.heap.push { cls := .type "dict_values", data := .fields #[.ref d] } }) :=
  .of_wp fun A R s ⟨⟨es, ep, hm⟩, q⟩ => by
    unfold Builtin.«dict.values»
    refine wpAny_bind ?_
    unfold Builtin.Dict.noArgs
    refine wpAny_bind (wpAny_notOrdered_dict hm.typeIs (wpAny_pure ?_))
    show wpAny _ _ (Builtin.Dict.showsAll d >>= _) _ _ s
    unfold Builtin.Dict.showsAll
    rw [if_neg (by rw [hd]; exact Bool.false_ne_true)]
    exact wpAny_bind (wpAny_pure (wpAny_bind (wpAny_newObj_type (wpAny_pure ⟨_, rfl, q⟩))))
end
section
variable {X : Cx}
theorem call_lenF : CallR X (.builtin "len") (fun xs H Q => ∃ d kvs, xs = [V.ref d] ∧ DF X.w H d kvs ∧ Q (.int kvs.length) H) := by
  intro pins s σ H xs us Q I r h
  obtain ⟨d, kvs, rfl, hd, q⟩ := h
  obtain ⟨u, rfl, rx⟩ := vals1 r
  cases rx
  obtain ⟨od, u, es, ep, _, ho, hx, hdt, hm, hE⟩ := hd.raw I.hok
  refine len_raw hm ⟨od, ho, hx, hdt⟩ (by rw [← hE.len]; exact hE.lt) fun t s' e => ?_
  subst e
  exact ⟨.int kvs.length, H, I.tok _, ⟨_, by rw [hE.len]⟩, q⟩
def rIsiF (w : World) (K : PySem.W.Frag) : List V → Hp → VK → Prop := fun xs H Q => ∃ (d : Addr) (kvs : List Kvv) (T : String) (b : Bool), xs = [.ref d, .ty T] ∧ DF w H d kvs ∧ kitB "dict" T = some b ∧ Q (.bl b) H
theorem call_isiF : CallR X (.builtin "isinstance") (rIsiF X.w X.K) := by
  intro pins s σ H xs us Q I r h
  obtain ⟨d, kvs, T, b, rfl, hd, hk, q⟩ := h
  obtain ⟨u1, u2, rfl, r1, r2⟩ := vals2 r
  cases (show u1 = Value.ref d from r1)
  cases (show u2 = Value.type T from r2)
  obtain ⟨od, u, es, ep, _, ho, hx, hdt, hm, hE⟩ := hd.raw I.hok
  exact PySem.W.kia_one (PySem.W.kitx_dict) I.kIn ⟨od, ho, hx.1⟩ (kit_ty hk) (fun z => nomatch z) fun tk => ⟨.bl b, H, I.tok tk, rfl, q⟩
/-- k in d -/
theorem op_inF (hu : X.A.units + 9 < cLine) : OpR X (compareOp .In) (fun x y H Q => ∃ (d : Addr) (kvs : List Kvv) (k : NestedKey), y = .ref d ∧ DF X.w H d kvs ∧ KeyV H k x ∧ k.depth ≤ 8 ∧ Q (.bl (decide (k ∈ kvs.map (·.1)))) H) := by
  intro pins s σ H x y v u Q I rx ry h
  obtain ⟨d, kvs, k, rfl, hd, hk, h8, q⟩ := h
  cases (show u = Value.ref d from ry)
  obtain ⟨od, hu', es, ep, _, ho, hx, hdt, hm, hE⟩ := hd.raw I.hok
  show wpAny _ _ (do return Value.bool (← contains (.ref d) v)) _ _ s
  exact wpAny_bind (contains_any hu (hk.is I rx) h8 hm ho hx hdt (hE.ks I) (wpAny_pure ⟨.bl (decide (k ∈ kvs.map (fun x : Kvv => x.1))), H, I.tok _, rfl, q⟩))
end
/-! walks -/
def ItkF (w : World) (d : Addr) (od : Obj) (kvs : List Kvv) : It :=
  ⟨fun i H => (∃ u, H d = some (.frz od u)) ∧ DF w H d kvs ∧ i < kvs.length, fun i H x H' => H' = H ∧ ∃ k v, kvs[i]? = some (k, x, v), fun i H => (∃ u, H d = some (.frz od u)) ∧ DF w H d kvs ∧ kvs.length ≤ i⟩
def ItvF (w : World) (d : Addr) (od : Obj) (kvs : List Kvv) : It :=
  ⟨fun i H => (∃ u, H d = some (.frz od u)) ∧ DF w H d kvs ∧ i < kvs.length, fun i H x H' => H' = H ∧ ∃ k v, kvs[i]? = some (k, v, x), fun i H => (∃ u, H d = some (.frz od u)) ∧ DF w H d kvs ∧ kvs.length ≤ i⟩
section
variable {P : Program} {w : World} {K : PySem.W.Frag} {tg : Expr} {d : Addr} {o : Obj} {es : Array DictEntry} {ep : Nat}
theorem df_at {X : Cx} {pins : List (Addr × Obj)} {σ : L2.St} {H : Hp} {s : Shared} {kvs : List Kvv} (I : Inv X pins σ H s) (h1 : ∃ u, H d = some (.frz o u)) (h2 : DF X.w H d kvs) (hod : o.data = .dict es ep) : s.heap.get? d = some o ∧ o.ExactDict ∧ (d == sysModules) = false ∧ Ents X.w H kvs es := by
  obtain ⟨u, h1⟩ := h1
  obtain ⟨od, u2, es2, ep2, g1, ho, hx, hdt, hm, hE⟩ := h2.raw I.hok
  rw [h1] at g1
  cases g1
  obtain ⟨rfl, rfl⟩ := dict_ep hod hdt
  exact ⟨ho, hx, hm, hE⟩
theorem turn_keysF {kvs : List Kvv} (it : Addr) (hod : o.data = .dict es ep) : Turn P w K tg (ItkF w d o kvs) [it] it (fun i h => h.IsKeyIter it d i kvs.length ep) where
  mem := by simp
  obj := fun i h st b hb => by
    obtain rfl : b = it := by simpa using hb
    obtain ⟨oi, e, c, dd⟩ := st
    exact ⟨oi, e, fun v z => by rw [dd] at z; cases z⟩
  keep := fun i h h' st k => st.at fun oi e => k it (by simp) oi e
  item := by
    intro X hP hw hK hc i pins s σ H E I hf st hg
    subst hP hw hK
    obtain ⟨h1, h2, hi⟩ := hg
    obtain ⟨f0, f1, f2, f3, f4, f5⟩ := hf it (by simp)
    obtain ⟨hgd, hx, hm, hE⟩ := df_at I h1 h2 hod
    obtain ⟨⟨k, kv, v⟩, hkv⟩ : ∃ p, kvs[i]? = some p := ⟨kvs[i], List.getElem?_eq_getElem hi⟩
    obtain ⟨en, hen, hev⟩ := hE.get hkv
    refine next_key_item st hgd hod hE.len.symm hen fun h' st' sb => ?_
    have I1 : Inv X pins σ H { s with heap := h' } := I.turned (t' := s.toks) (fun b ob hb e => (sb.2 b hb).trans e) f0 f1 f3 f4 f5
    obtain ⟨oi, e, c, dd⟩ := id st'
    exact ⟨en.key, rfl, go_of (s := { s with heap := h' }) e c dd (by decide) ⟨kv, H, I1, hev.2.1, ⟨rfl, k, v, hkv⟩, st', fun b hb => (hf b hb).1⟩⟩
  done := by
    intro X hP hw hK hc i pins s σ H E I hf st hg
    subst hP hw hK
    obtain ⟨h1, h2, hi⟩ := hg
    obtain ⟨f0, f1, f2, f3, f4, f5⟩ := hf it (by simp)
    obtain ⟨hgd, hx, hm, hE⟩ := df_at I h1 h2 hod
    exact next_key_end (I.ok.hd hc) st hgd hod hE.len.symm hi fun h' eb => ⟨rfl, I.turned (t' := s.toks) (fun b ob hb e => eb b ob hb e) f0 f1 f3 f4 f5⟩
  self := fun A i s Q E st h => wpAny_pyIter_keyiter st h
theorem turn_valsF {kvs : List Kvv} (it : Addr) (hod : o.data = .dict es ep) : Turn P w K tg (ItvF w d o kvs) [it] it (fun i h => h.IsValIter it d i kvs.length ep) where
  mem := by simp
  obj := fun i h st b hb => by
    obtain rfl : b = it := by simpa using hb
    obtain ⟨oi, e, c, dd⟩ := st
    exact ⟨oi, e, fun v z => by rw [dd] at z; cases z⟩
  keep := fun i h h' st k => st.at fun oi e => k it (by simp) oi e
  item := by
    intro X hP hw hK hc i pins s σ H E I hf st hg
    subst hP hw hK
    obtain ⟨h1, h2, hi⟩ := hg
    obtain ⟨f0, f1, f2, f3, f4, f5⟩ := hf it (by simp)
    obtain ⟨hgd, hx, hm, hE⟩ := df_at I h1 h2 hod
    obtain ⟨⟨k, kv, v⟩, hkv⟩ : ∃ p, kvs[i]? = some p := ⟨kvs[i], List.getElem?_eq_getElem hi⟩
    obtain ⟨en, hen, hev⟩ := hE.get hkv
    have hlt : i < es.size := by rw [← hE.len]; exact hi
    rw [hE.len] at st
    refine wpAny_pyNext_values_item_raw st ⟨o, hgd, hx, hod⟩ hlt fun h' st' sb => ?_
    have I1 : Inv X pins σ H { s with heap := h' } := I.turned (t' := s.toks) (fun b ob hb e => (sb.2 b hb).trans e) f0 f1 f3 f4 f5
    obtain ⟨oi, e, c, dd⟩ := id st'
    have een : es[i] = en := by rw [Array.getElem?_eq_getElem hlt] at hen; exact Option.some.inj hen
    refine ⟨es[i].val, rfl, go_of (s := { s with heap := h' }) e c dd (by decide) ⟨v, H, I1, by rw [een]; exact hev.2.2.2.2, ⟨rfl, k, kv, hkv⟩, ?_, fun b hb => (hf b hb).1⟩⟩
    show h'.IsValIter it d (i + 1) kvs.length _
    rw [hE.len]; exact st'
  done := by
    intro X hP hw hK hc i pins s σ H E I hf st hg
    subst hP hw hK
    obtain ⟨h1, h2, hi⟩ := hg
    obtain ⟨f0, f1, f2, f3, f4, f5⟩ := hf it (by simp)
    obtain ⟨hgd, hx, hm, hE⟩ := df_at I h1 h2 hod
    rw [hE.len] at st
    exact wpAny_pyNext_values_end_raw (I.ok.hd hc) st ⟨o, hgd, hx, hod⟩ (by rw [← hE.len]; exact hi) fun h' eb => ⟨rfl, I.turned (t' := s.toks) (fun b ob hb e => eb b ob hb e) f0 f1 f3 f4 f5⟩
  self := fun A i s Q E st h => wpAny_pyIter_valiter st h
end
def iKeysF (w : World) (td : TE) : TI := fun σ H R => td σ H fun x H1 => ∃ d kvs, x = .ref d ∧ DF w H1 d kvs ∧ ∀ od u, H1 d = some (.frz od u) → R (ItkF w d od kvs) H1
def iValsF (w : World) (td : TE) : TI := fun σ H R => td σ H fun x H1 => ∃ d kvs, x = .ref d ∧ DF w H1 d kvs ∧ ∀ od u, H1 d = some (.frz od u) → R (ItvF w d od kvs) H1
section
variable {X : Cx} {tg e : Expr} {td : TE} {apos cpos : Pos}
theorem pi_keysF (he : PE X e td) : PI X tg e (iKeysF X.w td) := by
  refine ⟨fun pins s σ H R I h => ?_⟩
  refine thn (he.run pins s σ H _ I h) fun u s1 ⟨x, H1, I1, rx, d, kvs, ex, hd, q⟩ => ?_
  subst ex
  obtain rfl : u = Value.ref d := rx
  obtain ⟨od, u2, es, ep, hf, ho, hx, hdt, hm, hE⟩ := hd.raw I1.hok
  refine iter_keys hm ho hx hdt (pi_one (tk := s1.toks) I1 _ (turn_keysF _ hdt) ⟨_, Heap.get?_push_size _ rfl, rfl, ?_⟩ (q od u2 hf))
  rw [hE.len]; rfl
theorem pi_valsF (he : PE X e td) (hbase : attributeBase e "values" X.env (eval e X.env) = eval e X.env := by rfl) (hline : (apos.endLine == cpos.line) = true := by rfl) : PI X tg (.Call (.Attribute e "values" apos) [] [] cpos) (iValsF X.w td) := by
  refine ⟨fun pins s σ H R I h => ?_⟩
  refine wpAny_Call_method (T := "dict") (id := "dict.values") hbase rfl hline F.plainAttrs_dict F.slot_dict_values F.type_dict_values (thn (he.run pins s σ H _ I h) fun u s1 ⟨x, H1, I1, rx, d, kvs, ex, hd, q⟩ => ?_)
  subst ex
  obtain rfl : u = Value.ref d := rx
  obtain ⟨od, u2, es, ep, hf, ho, hx, hdt, hm, hE⟩ := hd.raw I1.hok
  have raw : s1.heap.DictRaw d es ep := ⟨od, ho, hx, hdt⟩
  refine ⟨raw.typeIs, (fun b z => by cases z; exact ⟨od, ho, hx.2.1⟩), ?_⟩
  have I2 : Inv X pins σ H1 { s1 with heap := s1.heap.push { cls := .type "dict_values", data := .fields #[.ref d] } } := I1.kept (t' := s1.toks) fun b ob q => Heap.get?_push_of_some _ q
  have fin : wpAny (model X.prog X.w) X.A (pyIter (.ref s1.heap.objs.size)) (PIE X pins σ tg R) X.xe { s1 with heap := s1.heap.push { cls := .type "dict_values", data := .fields #[.ref d] } } := by
    refine wpAny_pyIter_values_raw (d := d) (es := es) (ep := ep) ⟨_, Heap.get?_push_size _ rfl, rfl, rfl⟩ (raw.push _) (pi_one (tk := s1.toks) I2 _ (turn_valsF _ hdt) ⟨_, Heap.get?_push_size _ rfl, rfl, ?_⟩ (q od u2 hf))
    rw [hE.len]; rfl
  show wpAny _ _ (callWith cpos (.builtin "dict.values") [.ref d] [] []) _ X.xe s1
  exact method_meetsIn F.slot_dict_values F.entry_dict_values rfl (PySem.evalArgs_none ⟨rfl, raw.typeIs, F.args_dict_values_1 _, _, meets_vals_raw hm, ⟨⟨es, ep, raw⟩, fin⟩⟩)
/-- walks over such a dict -/
theorem walk_keysF {w : World} {d : Addr} {od : Obj} {kvs : List Kvv} : Walk (ItkF w d od kvs) kvs.length (fun H => (∃ u, H d = some (.frz od u)) ∧ DF w H d kvs) (fun i H x H' => H' = H ∧ ∃ k v, kvs[i]? = some (k, x, v)) :=
  ⟨fun i H hi h => ⟨h.1, h.2, hi⟩, fun H h => ⟨h.1, h.2, Nat.le_refl _⟩, fun i H x H' hi h y => y⟩
theorem walk_valsF {w : World} {d : Addr} {od : Obj} {kvs : List Kvv} : Walk (ItvF w d od kvs) kvs.length (fun H => (∃ u, H d = some (.frz od u)) ∧ DF w H d kvs) (fun i H x H' => H' = H ∧ ∃ k v, kvs[i]? = some (k, v, x)) :=
  ⟨fun i H hi h => ⟨h.1, h.2, hi⟩, fun H h => ⟨h.1, h.2, Nat.le_refl _⟩, fun i H x H' hi h y => y⟩
/-- list(d): the keys as they stand -/
theorem call_listF (hc : X.calm = true) : CallR X (.type "list") (fun xs H Q => ∃ d kvs, xs = [V.ref d] ∧ DF X.w H d kvs ∧ ∀ p, H p = none → Q (.ref p) (upd H p (.lst (kvs.map fun x => x.2.1)))) := by
  intro pins s σ H xs us Q I r h
  obtain ⟨d, kvs, rfl, hd, q⟩ := h
  obtain ⟨u, rfl, rx⟩ := r.one
  cases rx
  obtain ⟨od, u2, es, ep, hf, ho, hx, hdt, hm, hE⟩ := hd.raw I.hok
  refine PySem.W.kdl_call (kdl_raw hm hx hdt) (I.ok.hd hc) ho (by have := hE.lt; rw [hE.len] at this; exact this) fun h' tk acc' c' kp e it => ?_
  have rv : Vals (kvs.map fun x => x.2.1) acc'.toList := by
    have hl : kvs.length = acc'.toList.length := by rw [Array.length_toList (xs := acc'), it.1]; exact hE.len
    have key : ∀ (j : Nat) (x : Kvv) (v : Value), kvs[j]? = some x → acc'.toList[j]? = some v → RelV x.2.1 v := fun j x v hj hv => by
      obtain ⟨en, hen, hev⟩ := hE.get hj
      obtain ⟨en2, g1, g2⟩ := it.2 j v (by rw [← hv, Array.getElem?_toList])
      rw [hen] at g1
      cases g1
      rw [g2]; exact hev.2.1
    clear it e hE
    revert hl key
    generalize acc'.toList = l
    clear q hd hf
    induction kvs generalizing l with
    | nil => intro hl _; cases l with | nil => exact .nil | cons _ _ => simp at hl
    | cons x r ih =>
      intro hl key
      cases l with
      | nil => simp at hl
      | cons v l => exact .cons (key 0 x v rfl rfl) (ih l (by simpa using hl) fun j y v hj hv => key (j + 1) y v (by simpa using hj) (by simpa using hv))
  refine ⟨.ref s.heap.objs.size, _, I.laid (t' := tk) (o := .lst (kvs.map fun x => x.2.1)) kp (Nat.le_refl _) ?_, rfl, q _ (I.hok.fresh (Nat.le_refl _))⟩
  exact ⟨by rw [List.length_map]; exact hE.lt, acc'.toList, c', rv, by rw [Array.toArray_toList]; exact e⟩
end
end My

set_option linter.all false
namespace My
open PySem PySem.Spec PyProof.Rows L2
/-! ### data with dicts of any kind, all standing still -/
mutual
inductive Dx (w : World) (G : Hp) : V → PyData → Prop
  | non : Dx w G .non .none
  | bl (b : Bool) : Dx w G (.bl b) (.bool b)
  | int (i : Int) : Dx w G (.int i) (.int i)
  | str (x : Str) : Dx w G (.str x) (.str x)
  | lst {a : Addr} {xs : List V} {ds : List PyData} : G a = some (.lst xs) → DxAll w G xs ds → Dx w G (.ref a) (.list ds)
  | tup {a : Addr} {xs : List V} {ds : List PyData} : G a = some (.tup xs) → DxAll w G xs ds → Dx w G (.ref a) (.tuple ds)
  | dct {a : Addr} {kvs : List Kvv} {ds : List (PyData × PyData)} : DF w G a kvs → DxAll w G (kvs.map fun x => x.2.1) (ds.map (·.1)) → DxAll w G (kvs.map fun x => x.2.2) (ds.map (·.2)) → Dx w G (.ref a) (.dict ds)
inductive DxAll (w : World) (G : Hp) : List V → List PyData → Prop
  | nil : DxAll w G [] []
  | cons {v : V} {vs : List V} {d : PyData} {ds : List PyData} : Dx w G v d → DxAll w G vs ds → DxAll w G (v :: vs) (d :: ds)
end
section
variable {w : World} {K : PySem.W.Frag} {G G' H : Hp}
mutual
theorem Dx.mono (e : Same G G') : ∀ {v : V} {d : PyData}, Dx w G v d → Dx w G' v d
  | _, _, .non => .non
  | _, _, .bl b => .bl b
  | _, _, .int i => .int i
  | _, _, .str x => .str x
  | _, _, .lst h t => .lst (e _ _ h) (DxAll.mono e t)
  | _, _, .tup h t => .tup (e _ _ h) (DxAll.mono e t)
  | _, _, .dct h t u => .dct (h.mono e) (DxAll.mono e t) (DxAll.mono e u)
theorem DxAll.mono (e : Same G G') : ∀ {vs : List V} {ds : List PyData}, DxAll w G vs ds → DxAll w G' vs ds
  | _, _, .nil => .nil
  | _, _, .cons h t => .cons (Dx.mono e h) (DxAll.mono e t)
end
mutual
/-- data without dicts, as the layer knew it -/
theorem Dx.of : ∀ {d : PyData} {v : V}, Dq K G v d → d.hasDict = false → Dx w G v d
  | .none, _, h, _ => by cases h; exact .non
  | .bool b, _, h, _ => by cases h; exact .bl b
  | .int i, _, h, _ => by cases h; exact .int i
  | .str x, _, h, _ => by cases h; exact .str x
  | .list ds, _, h, n => by
    cases h with
    | lst h t => exact .lst h (DxAll.of t (by simpa [PyData.hasDict] using n))
  | .tuple ds, _, h, n => by
    cases h with
    | tup h t => exact .tup h (DxAll.of t (by simpa [PyData.hasDict] using n))
  | .dict ds, _, h, n => by simp [PyData.hasDict] at n
theorem DxAll.of : ∀ {ds : List PyData} {vs : List V}, DqAll K G vs ds → PyData.hasDictAll ds = false → DxAll w G vs ds
  | [], _, h, _ => by cases h; exact .nil
  | d :: ds, _, h, n => by
    cases h with
    | cons a b =>
      simp only [PyData.hasDictAll, Bool.or_eq_false_iff] at n
      exact .cons (Dx.of a n.1) (DxAll.of b n.2)
end
theorem DxAll.append : ∀ {vs us : List V} {ds es : List PyData}, DxAll w G vs ds → DxAll w G us es → DxAll w G (vs ++ us) (ds ++ es)
  | _, _, _, _, .nil, t => t
  | _, _, _, _, .cons h r, t => .cons h (DxAll.append r t)
theorem DxAll.len : ∀ {vs : List V} {ds : List PyData}, DxAll w G vs ds → vs.length = ds.length
  | _, _, .nil => rfl
  | _, _, .cons _ t => by rw [List.length_cons, List.length_cons, DxAll.len t]
theorem DxAll.get : ∀ {vs : List V} {ds : List PyData} {i : Nat} {v : V}, DxAll w G vs ds → vs[i]? = some v → ∃ d, ds[i]? = some d ∧ Dx w G v d
  | _, _, _, _, .nil, e => by simp at e
  | _, _, 0, _, .cons h _, e => by simp at e; subst e; exact ⟨_, rfl, h⟩
  | _, _, i + 1, v, .cons _ t, e => by
    obtain ⟨d, h1, h2⟩ := DxAll.get (i := i) (v := v) t (by simpa using e)
    exact ⟨d, by simpa using h1, h2⟩
theorem DxAll.take : ∀ {vs : List V} {ds : List PyData} (n : Nat), DxAll w G vs ds → DxAll w G (vs.take n) (ds.take n)
  | _, _, 0, _ => .nil
  | _, _, _ + 1, .nil => .nil
  | _, _, n + 1, .cons h t => .cons h (DxAll.take n t)
theorem DxAll.drop : ∀ {vs : List V} {ds : List PyData} (n : Nat), DxAll w G vs ds → DxAll w G (vs.drop n) (ds.drop n)
  | _, _, 0, h => h
  | _, _, _ + 1, .nil => .nil
  | _, _, n + 1, .cons _ t => DxAll.drop n t
theorem DxAll.rev : ∀ {vs : List V} {ds : List PyData}, DxAll w G vs ds → DxAll w G vs.reverse ds.reverse
  | _, _, .nil => .nil
  | _, _, .cons h t => by
    rw [List.reverse_cons, List.reverse_cons]
    exact DxAll.append (DxAll.rev t) (.cons h .nil)
end
section
variable {X : Cx} {pins : List (Addr × Obj)} {σ : L2.St} {H : Hp} {s : Shared}
theorem ents_vals {w : World} {H : Hp} : ∀ {kvs : List Kvv} {es : List DictEntry}, Paired (EnV w H) kvs es → Vals (kvs.map fun x => x.2.1) (es.map (·.key)) ∧ Vals (kvs.map fun x => x.2.2) (es.map (·.val))
  | _, _, .nil => ⟨.nil, .nil⟩
  | _, _, .cons h t => ⟨.cons h.2.1 (ents_vals t).1, .cons h.2.2.2.2 (ents_vals t).2⟩
mutual
theorem Dx.reads (I : Inv X pins σ H s) : ∀ (d : PyData) (v : V) (u : Value), Dx X.w H v d → RelV v u → ∃ as, Reads s.heap u d as
  | .none, _, _, h, r => by cases h; cases r; exact ⟨_, Reads.none⟩
  | .bool b, _, _, h, r => by cases h; cases r; exact ⟨_, Reads.bool b⟩
  | .int i, _, _, h, r => by cases h; obtain ⟨t, rfl⟩ := r; exact ⟨_, Reads.int i t⟩
  | .str x, _, _, h, r => by cases h; obtain ⟨t, rfl⟩ := r; exact ⟨_, Reads.str x t⟩
  | .list ds, _, _, h, r => by
    cases h with
    | lst hs ha =>
      cases r
      obtain ⟨_, its, n, rv, ho⟩ := I.hok _ _ hs
      obtain ⟨as, hr⟩ := DxAll.reads I ds _ its ha rv
      exact ⟨_, Reads.list ho rfl rfl (by simpa using hr)⟩
  | .tuple ds, _, _, h, r => by
    cases h with
    | tup hs ha =>
      cases r
      obtain ⟨_, its, rv, o, ho, hc, n, hd⟩ := I.hok _ _ hs
      obtain ⟨as, hr⟩ := DxAll.reads I ds _ its ha rv
      exact ⟨_, Reads.tuple ho hc hd (by simpa using hr)⟩
  | .dict ds, _, _, h, r => by
    cases h with
    | dct hs hk hv =>
      cases r
      obtain ⟨od, u, es, ep, _, ho, hx, hdt, hm, hE⟩ := hs.raw I.hok
      obtain ⟨r1, r2⟩ := ents_vals hE.prd
      obtain ⟨as, q1⟩ := DxAll.readsK I ds _ _ hk r1
      obtain ⟨bs, q2⟩ := DxAll.readsV I ds _ _ hv r2
      exact ⟨_, Reads.dict ho hx.1 hdt q1 q2⟩
theorem DxAll.reads (I : Inv X pins σ H s) : ∀ (ds : List PyData) (vs : List V) (us : List Value), DxAll X.w H vs ds → Vals vs us → ∃ as, ReadsAll s.heap us ds as
  | [], _, _, h, r => by cases h; cases r; exact ⟨_, ReadsAll.nil⟩
  | d :: ds, _, _, h, r => by
    cases h with
    | cons h1 h2 =>
      cases r with
      | cons r1 r2 =>
        obtain ⟨as, q1⟩ := Dx.reads I d _ _ h1 r1
        obtain ⟨bs, q2⟩ := DxAll.reads I ds _ _ h2 r2
        exact ⟨_, ReadsAll.cons q1 q2⟩
theorem DxAll.readsK (I : Inv X pins σ H s) : ∀ (ds : List (PyData × PyData)) (vs : List V) (us : List Value), DxAll X.w H vs (ds.map (·.1)) → Vals vs us → ∃ as, ReadsAll s.heap us (ds.map (·.1)) as
  | [], _, _, h, r => by cases h; cases r; exact ⟨_, ReadsAll.nil⟩
  | (d, d') :: ds, _, _, h, r => by
    cases h with
    | cons h1 h2 =>
      cases r with
      | cons r1 r2 =>
        obtain ⟨as, q1⟩ := Dx.reads I d _ _ h1 r1
        obtain ⟨bs, q2⟩ := DxAll.readsK I ds _ _ h2 r2
        exact ⟨_, ReadsAll.cons q1 q2⟩
theorem DxAll.readsV (I : Inv X pins σ H s) : ∀ (ds : List (PyData × PyData)) (vs : List V) (us : List Value), DxAll X.w H vs (ds.map (·.2)) → Vals vs us → ∃ as, ReadsAll s.heap us (ds.map (·.2)) as
  | [], _, _, h, r => by cases h; cases r; exact ⟨_, ReadsAll.nil⟩
  | (d, d') :: ds, _, _, h, r => by
    cases h with
    | cons h1 h2 =>
      cases r with
      | cons r1 r2 =>
        obtain ⟨as, q1⟩ := Dx.reads I d' _ _ h1 r1
        obtain ⟨bs, q2⟩ := DxAll.readsV I ds _ _ h2 r2
        exact ⟨_, ReadsAll.cons q1 q2⟩
end
/-- what repr asks of a thing -/
def Shk (P : Program) (w : World) (h : Heap) (d : PyData) (u : Value) : Prop := ∃ bs, ReadAtMost h d.depth bs ∧ ReprK P w bs h d.depth u d.shown
def ShkAll (P : Program) (w : World) (h : Heap) (ds : List PyData) (us : List Value) : Prop := ∃ bs, ReadAtMost h (PyData.depthAll ds) bs ∧ ReprAllK P w bs h (PyData.depthAll ds) us (PyData.shownAll ds)
theorem shk_cons {P : Program} {w : World} {h : Heap} {d : PyData} {ds : List PyData} {u : Value} {us : List Value} (a : Shk P w h d u) (b : ShkAll P w h ds us) : ShkAll P w h (d :: ds) (u :: us) := by
  obtain ⟨b1, g1, k1⟩ := a
  obtain ⟨b2, g2, k2⟩ := b
  have le1 : d.depth ≤ PyData.depthAll (d :: ds) := by simp only [PyData.depthAll]; exact Nat.le_max_left _ _
  have le2 : PyData.depthAll ds ≤ PyData.depthAll (d :: ds) := by simp only [PyData.depthAll]; exact Nat.le_max_right _ _
  refine ⟨b1 ++ b2, fun c hc => ?_, ?_⟩
  · rcases List.mem_append.mp hc with hc | hc
    · obtain ⟨d', as', r', l⟩ := g1 c hc; exact ⟨d', as', r', Nat.le_trans l le1⟩
    · obtain ⟨d', as', r', l⟩ := g2 c hc; exact ⟨d', as', r', Nat.le_trans l le2⟩
  · rw [show PyData.shownAll (d :: ds) = d.shown :: PyData.shownAll ds by simp only [PyData.shownAll]]
    exact .cons ((k1.more fun c hc => List.mem_append_left b2 hc).level_le le1) (k2.more_le (fun c hc => List.mem_append_right b1 hc) le2)
mutual
theorem Dx.shk (I : Inv X pins σ H s) : ∀ (d : PyData) (v : V) (u : Value), Dx X.w H v d → RelV v u → d.showable = true → d.shown.length ≤ sizeLine → Shk X.prog X.w s.heap d u
  | .none, _, _, h, r, _, _ => by cases h; cases r; exact ⟨[], nofun, by simp only [PyData.shown]; exact .of_is ReprIs.none _ _ _⟩
  | .bool b, _, _, h, r, _, _ => by cases h; cases r; exact ⟨[], nofun, by simp only [PyData.shown]; exact .of_is (ReprIs.bool b) _ _ _⟩
  | .int i, _, _, h, r, hs, _ => by cases h; obtain ⟨t, rfl⟩ := r; exact ⟨[], nofun, by simp only [PyData.shown]; exact .of_is (ReprIs.int t (by simpa [PyData.showable] using hs)) _ _ _⟩
  | .str x, _, _, h, r, _, hz => by cases h; obtain ⟨t, rfl⟩ := r; exact ⟨[], nofun, by simp only [PyData.shown]; exact .of_is (ReprIs.str x t (by simpa only [PyData.shown] using hz)) _ _ _⟩
  | .list ds, v, u, h, r, hs, hz => by
    obtain ⟨as0, rd⟩ := Dx.reads I _ _ _ h r
    cases h with
    | lst hg ha =>
      cases r
      obtain ⟨_, its, n, rv, ho⟩ := I.hok _ _ hg
      simp only [PyData.shown] at hz
      obtain ⟨bs, hb, hk⟩ := DxAll.shk I ds _ its ha rv (by simpa [PyData.showable] using hs) fun t ht => Nat.le_trans (listText_mem_le ht) hz
      have hna := not_mem_of_deeper rd (by simp only [PyData.depth]; omega) hb
      refine ⟨_ :: bs, ReadAtMost.cons rd (Nat.le_refl _) (fun c hc => let ⟨d', as', r', l⟩ := hb c hc; ⟨d', as', r', by simp only [PyData.depth]; omega⟩), ?_⟩
      simp only [PyData.depth, PyData.shown]
      cases its with
      | nil =>
        cases rv; cases ha
        simp only [PyData.shownAll, listText_nil]
        exact ReprK.listEmpty ho rfl rfl
      | cons x l => exact ReprK.list ho rfl rfl hna (by simpa using hk.length_eq) (fun i y e => hk.item i y (by simpa using e))
  | .tuple ds, v, u, h, r, hs, hz => by
    obtain ⟨as0, rd⟩ := Dx.reads I _ _ _ h r
    cases h with
    | tup hg ha =>
      cases r
      obtain ⟨_, its, rv, o, ho, hc, n, hd⟩ := I.hok _ _ hg
      simp only [PyData.shown] at hz
      obtain ⟨bs, hb, hk⟩ := DxAll.shk I ds _ its ha rv (by simpa [PyData.showable] using hs) fun t ht => Nat.le_trans (tupleText_mem_le ht) hz
      have hna := not_mem_of_deeper rd (by simp only [PyData.depth]; omega) hb
      refine ⟨_ :: bs, ReadAtMost.cons rd (Nat.le_refl _) (fun c hc => let ⟨d', as', r', l⟩ := hb c hc; ⟨d', as', r', by simp only [PyData.depth]; omega⟩), ?_⟩
      simp only [PyData.depth, PyData.shown]
      exact ReprK.tuple ho hc hd hna (by simpa using hk)
  | .dict ds, v, u, h, r, hs, hz => by
    obtain ⟨as0, rd⟩ := Dx.reads I _ _ _ h r
    cases h with
    | dct hg hk hv =>
      cases r
      obtain ⟨od, u, es, ep, _, ho, hx, hdt, hm, hE⟩ := hg.raw I.hok
      obtain ⟨r1, r2⟩ := ents_vals hE.prd
      simp only [PyData.shown] at hz
      obtain ⟨s1, s2⟩ := PyData.showableKv_split ds (by simpa [PyData.showable] using hs)
      obtain ⟨b1, g1, k1⟩ := DxAll.shkK I ds _ _ hk r1 s1 fun t ht => let ⟨p, hp, hl⟩ := PyData.shownKv_key_le ds t ht; Nat.le_trans hl (Nat.le_trans (dictText_mem_le hp) hz)
      obtain ⟨b2, g2, k2⟩ := DxAll.shkV I ds _ _ hv r2 s2 fun t ht => let ⟨p, hp, hl⟩ := PyData.shownKv_val_le ds t ht; Nat.le_trans hl (Nat.le_trans (dictText_mem_le hp) hz)
      have hb : ReadAtMost s.heap (PyData.depthKv ds) (b1 ++ b2) := (g1.mono (PyData.depthAll_keys_le ds)).append (g2.mono (PyData.depthAll_vals_le ds))
      have hna := not_mem_of_deeper rd (by simp only [PyData.depth]; omega) hb
      refine ⟨_ :: (b1 ++ b2), ReadAtMost.cons rd (Nat.le_refl _) (fun c hc => let ⟨d', as', r', l⟩ := hb c hc; ⟨d', as', r', by simp only [PyData.depth]; omega⟩), ?_⟩
      simp only [PyData.depth, PyData.shown, PyData.shownKv_eq]
      exact ReprK.dict ho hx.1 hdt hm hna (ReprEntriesK.of_two es.toList _ _ (k1.more_le (fun c hc => List.mem_append_left b2 hc) (PyData.depthAll_keys_le ds)) (k2.more_le (fun c hc => List.mem_append_right b1 hc) (PyData.depthAll_vals_le ds)))
theorem DxAll.shk (I : Inv X pins σ H s) : ∀ (ds : List PyData) (vs : List V) (us : List Value), DxAll X.w H vs ds → Vals vs us → PyData.showableAll ds = true → (∀ t ∈ PyData.shownAll ds, t.length ≤ sizeLine) → ShkAll X.prog X.w s.heap ds us
  | [], _, _, h, r, _, _ => by cases h; cases r; exact ⟨[], nofun, by simp only [PyData.shownAll]; exact .nil⟩
  | d :: ds, _, _, h, r, hs, hz => by
    cases h with
    | cons h1 h2 =>
      cases r with
      | cons r1 r2 =>
        have e : d.showable = true ∧ PyData.showableAll ds = true := by simpa [PyData.showableAll] using hs
        simp only [PyData.shownAll, List.mem_cons] at hz
        exact shk_cons (Dx.shk I d _ _ h1 r1 e.1 (hz _ (.inl rfl))) (DxAll.shk I ds _ _ h2 r2 e.2 fun t ht => hz t (.inr ht))
theorem DxAll.shkK (I : Inv X pins σ H s) : ∀ (ds : List (PyData × PyData)) (vs : List V) (us : List Value), DxAll X.w H vs (ds.map (·.1)) → Vals vs us → PyData.showableAll (ds.map (·.1)) = true → (∀ t ∈ PyData.shownAll (ds.map (·.1)), t.length ≤ sizeLine) → ShkAll X.prog X.w s.heap (ds.map (·.1)) us
  | [], _, _, h, r, _, _ => by cases h; cases r; exact ⟨[], nofun, by simp only [List.map_nil, PyData.shownAll]; exact .nil⟩
  | (d, d') :: ds, _, _, h, r, hs, hz => by
    cases h with
    | cons h1 h2 =>
      cases r with
      | cons r1 r2 =>
        simp only [List.map_cons, PyData.showableAll, Bool.and_eq_true] at hs
        simp only [List.map_cons, PyData.shownAll, List.mem_cons] at hz
        exact shk_cons (Dx.shk I d _ _ h1 r1 hs.1 (hz _ (.inl rfl))) (DxAll.shkK I ds _ _ h2 r2 hs.2 fun t ht => hz t (.inr ht))
theorem DxAll.shkV (I : Inv X pins σ H s) : ∀ (ds : List (PyData × PyData)) (vs : List V) (us : List Value), DxAll X.w H vs (ds.map (·.2)) → Vals vs us → PyData.showableAll (ds.map (·.2)) = true → (∀ t ∈ PyData.shownAll (ds.map (·.2)), t.length ≤ sizeLine) → ShkAll X.prog X.w s.heap (ds.map (·.2)) us
  | [], _, _, h, r, _, _ => by cases h; cases r; exact ⟨[], nofun, by simp only [List.map_nil, PyData.shownAll]; exact .nil⟩
  | (d, d') :: ds, _, _, h, r, hs, hz => by
    cases h with
    | cons h1 h2 =>
      cases r with
      | cons r1 r2 =>
        simp only [List.map_cons, PyData.showableAll, Bool.and_eq_true] at hs
        simp only [List.map_cons, PyData.shownAll, List.mem_cons] at hz
        exact shk_cons (Dx.shk I d' _ _ h1 r1 hs.1 (hz _ (.inl rfl))) (DxAll.shkV I ds _ _ h2 r2 hs.2 fun t ht => hz t (.inr ht))
end
def rReprX (w : World) : List V → Hp → VK → Prop := fun xs H Q => ∃ (v : V) (d : PyData), xs = [v] ∧ Dx w H v d ∧ d.showable = true ∧ d.depth ≤ 100 ∧ d.shown.length ≤ sizeLine ∧ Q (.str d.shown) H
theorem cr_reprX {X : Cx} (hg : X.A.guards = some []) (hu : X.A.units + 111 < cLine) : CallR X (.builtin "repr") (rReprX X.w) := by
  intro pins s σ H xs us Q I r h
  obtain ⟨v, d, rfl, h, hs, hd, hz, q⟩ := h
  obtain ⟨u, rfl, r0⟩ := vals1 r
  have end' : ∀ (h' : Heap) (t : Tok) (tk : Nat), (∀ b o, s.heap.get? b = some o → h'.get? b = some o) → EP X pins σ Q (.str d.shown t) { s with heap := h', toks := tk } := fun h' t tk hk => ⟨.str _, H, I.kept hk, ⟨_, rfl⟩, q⟩
  obtain ⟨as0, rd⟩ := Dx.reads I _ _ _ h r0
  cases h with
  | non => cases r0; exact PySem.P.repr_of_none ⟨.str _, H, I.tok _, ⟨_, rfl⟩, q⟩
  | bl b => cases r0; exact PySem.P.repr_of_bool ⟨.str _, H, I.tok _, ⟨_, rfl⟩, q⟩
  | int i =>
    obtain ⟨t, rfl⟩ := r0
    exact PySem.P.repr_of_int (by simpa [PyData.showable] using hs) ⟨.str _, H, I.tok _, ⟨_, rfl⟩, q⟩
  | str x =>
    obtain ⟨t, rfl⟩ := r0
    exact PySem.P.repr_of_str ⟨.str _, H, I.tok _, ⟨_, rfl⟩, q⟩ hz
  | @lst a ys ds hg2 ha =>
    cases r0
    obtain ⟨_, its, n, rv, ho⟩ := I.hok _ _ hg2
    simp only [PyData.shown] at hz end'
    simp only [PyData.depth] at hd
    obtain ⟨bs, hb, hk⟩ := DxAll.shk I ds _ its ha rv (by simpa [PyData.showable] using hs) fun t ht => Nat.le_trans (listText_mem_le ht) hz
    have hna := not_mem_of_deeper rd (by simp only [PyData.depth]; omega) hb
    refine call_repr_slot (T := "list") (by omega) ⟨_, ho, rfl⟩ F.slot_list_repr.toG ?_
    cases its with
    | nil =>
      cases rv; cases ha
      simp only [PyData.shownAll, listText_nil] at end'
      exact call_list_repr_empty ⟨_, ho, rfl⟩ ho rfl ⟨_, _, rfl, end' s.heap _ _ fun _ _ e => e⟩
    | cons x l =>
      exact call_list_reprK (d := PyData.depthAll ds) ho rfl rfl hna (by simpa using hk.length_eq) (fun i y e => hk.item i y (by simpa using e)) hg (fun b _ => Clear.nil b) (by show X.A.units + 1 + (_ + 1) < cLine; omega) (fun _ _ e => e) (fun h' t tk e => ⟨_, _, rfl, end' h' t tk e⟩) hz
  | @tup a ys ds hg2 ha =>
    cases r0
    obtain ⟨_, its, rv, o, ho, hc, n, hd2⟩ := I.hok _ _ hg2
    simp only [PyData.shown] at hz end'
    simp only [PyData.depth] at hd
    obtain ⟨bs, hb, hk⟩ := DxAll.shk I ds _ its ha rv (by simpa [PyData.showable] using hs) fun t ht => Nat.le_trans (tupleText_mem_le ht) hz
    have hna := not_mem_of_deeper rd (by simp only [PyData.depth]; omega) hb
    exact call_repr_slot (T := "tuple") (by omega) ⟨_, ho, hc⟩ F.slot_tuple_repr (call_tuple_reprK (d := PyData.depthAll ds) ho hc hd2 hna (by simpa using hk) hg (fun b _ => Clear.nil b) (by show X.A.units + 1 + (_ + 1) < cLine; omega) (fun _ _ e => e) (fun h' t tk e => ⟨_, _, rfl, end' h' t tk e⟩) hz)
  | @dct a kvs ds hg2 hk hv =>
    cases r0
    obtain ⟨od, u, es, ep, _, ho, hx, hdt, hm, hE⟩ := hg2.raw I.hok
    obtain ⟨r1, r2⟩ := ents_vals hE.prd
    simp only [PyData.shown] at hz end'
    simp only [PyData.depth] at hd
    obtain ⟨s1, s2⟩ := PyData.showableKv_split ds (by simpa [PyData.showable] using hs)
    obtain ⟨b1, g1, k1⟩ := DxAll.shkK I ds _ _ hk r1 s1 fun t ht => let ⟨p, hp, hl⟩ := PyData.shownKv_key_le ds t ht; Nat.le_trans hl (Nat.le_trans (dictText_mem_le hp) hz)
    obtain ⟨b2, g2, k2⟩ := DxAll.shkV I ds _ _ hv r2 s2 fun t ht => let ⟨p, hp, hl⟩ := PyData.shownKv_val_le ds t ht; Nat.le_trans hl (Nat.le_trans (dictText_mem_le hp) hz)
    have hb : ReadAtMost s.heap (PyData.depthKv ds) (b1 ++ b2) := (g1.mono (PyData.depthAll_keys_le ds)).append (g2.mono (PyData.depthAll_vals_le ds))
    have hna := not_mem_of_deeper rd (by simp only [PyData.depth]; omega) hb
    rw [PyData.shownKv_eq] at hz
    simp only [PyData.shownKv_eq] at end'
    exact call_repr_slot (T := "dict") (by omega) ⟨_, ho, hx.1⟩ F.slot_dict_repr (call_dict_reprK (d := PyData.depthKv ds) ho hx.1 hdt hm hna (ReprEntriesK.of_two es.toList _ _ (k1.more_le (fun c hc => List.mem_append_left b2 hc) (PyData.depthAll_keys_le ds)) (k2.more_le (fun c hc => List.mem_append_right b1 hc) (PyData.depthAll_vals_le ds))) hg (fun b _ => Clear.nil b) (by show X.A.units + 1 + (_ + 1) < cLine; omega) (fun _ _ e => e) (fun h' t tk e => ⟨_, _, rfl, end' h' t tk e⟩) hz)
/-- isinstance of such a thing -/
theorem Dx.tyx {w : World} {K : PySem.W.Frag} {H : Hp} {v : V} {d : PyData} (h : Dx w H v d) (n : ∀ ds, d ≠ .dict ds) : TyX K H v (.type (tyN d)) := by
  cases h with
  | non => exact .base .non
  | bl b => exact .base (.bl b)
  | int i => exact .base (.int i)
  | str x => exact .base (.str x)
  | lst h _ => exact .base (.lst h)
  | tup h _ => exact .base (.tup h)
  | dct h _ _ => exact absurd rfl (n _)
def rIsiX (w : World) : List V → Hp → VK → Prop := fun xs H Q => ∃ (v : V) (d : PyData) (T : String) (b : Bool), xs = [v, .ty T] ∧ Dx w H v d ∧ kitB (tyN d) T = some b ∧ Q (.bl b) H
theorem call_isiX {X : Cx} : CallR X (.builtin "isinstance") (rIsiX X.w) := by
  intro pins s σ H xs us Q I r h
  obtain ⟨v, d, T, b, rfl, h, hk, q⟩ := h
  by_cases c : ∃ ds, d = .dict ds
  · obtain ⟨ds, rfl⟩ := c
    cases h with
    | dct hg _ _ => exact call_isiF pins s σ H _ us Q I r ⟨_, _, T, b, rfl, hg, hk, q⟩
  · exact call_isi pins s σ H _ us Q I r ⟨v, .ty T, .type (tyN d), .type T, b, rfl, .ty T, h.tyx fun ds e => c ⟨ds, e⟩, kit_ty hk, q⟩
end
end My

set_option linter.all false
namespace My
open PySem PySem.Spec PyProof.Rows L2
/-! ### comprehensions by what each turn keeps -/
theorem lc_gen {J : It} {n : Nat} {G : Hp → Prop} {Y : Nat → Hp → V → Hp → Prop} (w : Walk J n G Y) {g : TG} {tt : TT} {te : TE} {vs : List Nat} {σ : L2.St} {H1 : Hp} {D : Addr} {Qd : Hp → Prop} (f : Nat → Bool) (v : Nat → V) (nD : H1 D = none) (hn : n ≤ sizeLine) (hG : ∀ H, Same H1 H → G H)
    (hs : ∀ i x H H', i < n → Same H1 H → Y i H x H' → ∀ (Q : VK) (R : Hp → Prop), (f i = true → ∀ H4, Same H H4 → Q (v i) H4) → (f i = false → ∀ H4, Same H H4 → R H4) → g x (wipe σ vs) H' fun σ2 H2 => wipe σ2 vs = wipe σ vs ∧ tt σ2 H2 fun b H3 => if b = true then te σ2 H3 Q else R H3)
    (hd : ∀ H, Same H1 H → H D = some (.lst (((List.range n).filter f).map v)) → Qd H) :
    ∃ W : Nat → Nat → Hp → Prop, (∃ m, W 0 m (upd H1 D (.lst []))) ∧ ∀ i m H, W i m H →
      (J.stop i H ∧ Qd H) ∨ (J.go i H ∧ ∃ Nx : Hp → Prop, (∀ H', Nx H' → ∃ m', m' < m ∧ W (i + 1) m' H') ∧ ∀ x H', J.yld i H x H' → g x (wipe σ vs) H' fun σ2 H2 => wipe σ2 vs = wipe σ vs ∧ tt σ2 H2 fun b H3 =>
        if b = true then te σ2 H3 fun y H4 => ∃ acc, H4 D = some (.lst acc) ∧ acc.length < sizeLine ∧ Nx (upd H4 D (.lst (acc ++ [y]))) else Nx H3) := by
  refine lc_it w (fun i H => Same H1 H ∧ H D = some (.lst (((List.range i).filter f).map v))) ⟨Same.upd nD, upd_same⟩ (fun i H _ z => hG H z.1) (fun i x H H' hi p y => ?_) fun H z => hd H z.1 z.2
  refine hs i x H H' hi p.1 y _ _ (fun hf H4 s4 => ?_) fun hf H4 s4 => ?_
  · refine ⟨_, s4 _ _ p.2, ?_, ?_, ?_⟩
    · have h1 := List.length_filter_le f (List.range i)
      rw [List.length_range] at h1
      rw [List.length_map]; omega
    · intro b o hb
      rw [upd_ne (ne_of_none hb nD)]
      exact s4 _ _ (p.1 b o hb)
    · rw [upd_same, List.range_succ, List.filter_append, List.map_append]
      simp [hf]
  · refine ⟨p.1.trans s4, ?_⟩
    rw [s4 _ _ p.2, List.range_succ, List.filter_append, List.map_append]
    simp [hf]
theorem walk_two {K : PySem.W.Frag} {a b : Addr} {us ys : List V} {n : Nat} (hn : n = min us.length ys.length) : Walk (RZ.ItzT K a b) n (fun H => SqT K H a us ∧ SqT K H b ys) (YPair (fun i => us[i]?) (fun i => ys[i]?)) := by
  subst hn
  refine ⟨fun i H lt q => ⟨us, ys, us[i]'(by omega), ys[i]'(by omega), q.1, q.2, List.getElem?_eq_getElem (by omega), List.getElem?_eq_getElem (by omega)⟩, fun H q => ⟨us, ys, q.1, q.2, by omega⟩, fun i H v H' lt q y => ?_⟩
  obtain ⟨T, x, z, h1, h2, h3, h4, h5⟩ := y
  exact ⟨T, x, z, h1, h2, h3, h4 us q.1, h5 ys q.2⟩
theorem range_all (n : Nat) (f : Nat → Bool) : (List.range n).filter (fun _ => true) = List.range n := by simp
/-- all([..]) of truths -/
theorem bools_map (n : Nat) (f : Nat → Bool) : ((List.range n).map fun i => V.bl (f i)) = ((List.range n).map f).map V.bl := by rw [List.map_map]; rfl
theorem all_range {α : Type} (l : List α) (f : Nat → Bool) (p : α → Bool) (h : ∀ i a, l[i]? = some a → f i = p a) : ((List.range l.length).map f).all id = l.all p := by
  induction l generalizing f with
  | nil => rfl
  | cons a r ih =>
    rw [List.length_cons, List.range_succ_eq_map, List.map_cons, List.all_cons, List.all_cons, List.map_map, ih (f ∘ Nat.succ) fun i b e => h (i + 1) b (by simpa using e), h 0 a rfl]
    rfl
theorem filt_nil (n : Nat) (f : Nat → Bool) (v : Nat → V) : (((List.range n).filter f).map v = []) ↔ ∀ i, i < n → f i = false := by
  rw [List.map_eq_nil_iff, List.filter_eq_nil_iff]
  constructor
  · intro h i hi
    have := h i (List.mem_range.mpr hi)
    simpa using this
  · intro h i hi
    have := h i (List.mem_range.mp hi)
    simp [this]
/-! ### pairs (digit, name) in their order -/
def ltP (a b : Int × Str) : Bool := if a.1 = b.1 then decide (a.2.cps.toList < b.2.cps.toList) else decide (a.1 < b.1)
section
variable {X : Cx}
theorem pair_at {pins : List (Addr × Obj)} {σ : L2.St} {H : Hp} {s : Shared} (I : Inv X pins σ H s) {a : Addr} {q : Int × Str} (h : H a = some (.tup [.int q.1, .str q.2])) : ∃ t u, s.heap.IsTuple a #[.int q.1 t, .str q.2 u] := by
  obtain ⟨_, its, rv, o, ho, hc, n, hd⟩ := I.hok _ _ h
  obtain ⟨x1, x2, rfl, r1, r2⟩ := vals2 rv
  obtain ⟨t, rfl⟩ := r1
  obtain ⟨u, rfl⟩ := r2
  exact ⟨t, u, o, ho, hc, n, hd⟩
def rCmpP (f : Int × Str → Int × Str → Bool) : R2 := fun x y H Q => ∃ (a b : Addr) (p q : Int × Str), x = .ref a ∧ y = .ref b ∧ H a = some (.tup [.int p.1, .str p.2]) ∧ H b = some (.tup [.int q.1, .str q.2]) ∧ Q (.bl (f p q)) H
theorem eq_at {s : Shared} {A : Around} (p q : Int × Str) (t u t' u' : Tok) : ∀ j (h1 : j < (#[Value.int p.1 t, Value.str p.2 u] : Array Value).size) (h2 : j < (#[Value.int q.1 t', Value.str q.2 u'] : Array Value).size),
    SeqAt.EqAt A s (#[Value.int p.1 t, Value.str p.2 u] : Array Value)[j] (#[Value.int q.1 t', Value.str q.2 u'] : Array Value)[j] (if j = 0 then decide (p.1 = q.1) else decide (p.2 = q.2)) := by
  intro j h1 h2
  have hj : j = 0 ∨ j = 1 := by simp at h1; omega
  rcases hj with rfl | rfl
  · have e : (p.1 == q.1) = decide (p.1 = q.1) := by by_cases c : p.1 = q.1 <;> simp [c]
    show SeqAt.EqAt A s (.int p.1 t) (.int q.1 t') (decide (p.1 = q.1))
    rw [← e]; exact SeqAt.EqAt.int_int _ _ _ _
  · have e : (p.2 == q.2) = decide (p.2 = q.2) := by by_cases c : p.2 = q.2 <;> simp [c]
    show SeqAt.EqAt A s (.str p.2 u) (.str q.2 u') (decide (p.2 = q.2))
    rw [← e]; exact SeqAt.EqAt.str_str _ _ _ _
theorem op_ltP (hu : X.A.units < cLine) : OpR X (compareOp .Lt) (rCmpP ltP) := by
  intro pins s σ H x y v u Q I rx ry h
  obtain ⟨a, b, p, q, rfl, rfl, ha, hb, k⟩ := h
  cases rx
  cases ry
  obtain ⟨t, u, p1⟩ := pair_at I ha
  obtain ⟨t', u', p2⟩ := pair_at I hb
  have R := Ob.RcOp.tuples_lt (A := X.A) (s := s) (r := fun j => if j = 0 then decide (p.1 < q.1) else decide (p.2.cps.toList < q.2.cps.toList)) p1 p2 hu (eq_at p q t u t' u') (fun j h1 h2 _ => by
    have hj : j = 0 ∨ j = 1 := by simp at h1; omega
    rcases hj with rfl | rfl
    · exact Ob.RcOp.lt_int _ _ _ _
    · exact fun prog w E Q h => PyProof.Rows.lt_str h)
  have e : Ob.lexAt (fun j => if j = 0 then decide (p.1 = q.1) else decide (p.2 = q.2)) (fun j => if j = 0 then decide (p.1 < q.1) else decide (p.2.cps.toList < q.2.cps.toList)) (decide ((#[Value.int p.1 t, Value.str p.2 u] : Array Value).size < (#[Value.int q.1 t', Value.str q.2 u'] : Array Value).size)) 0 (min (#[Value.int p.1 t, Value.str p.2 u] : Array Value).size (#[Value.int q.1 t', Value.str q.2 u'] : Array Value).size) = ltP p q := by
    show Ob.lexAt _ _ (decide (2 < 2)) 0 2 = _
    rw [Ob.lexAt_succ, Ob.lexAt_succ, Ob.lexAt_zero]
    unfold ltP
    by_cases c : p.1 = q.1
    · by_cases c2 : p.2 = q.2
      · simp [c, c2]
      · simp [c, c2]
    · simp [c]
  rw [e] at R
  exact R X.prog X.w X.xe (EP X pins σ Q) ⟨.bl _, H, I, rfl, k⟩
theorem op_geP (hu : X.A.units < cLine) : OpR X (compareOp .GtE) (rCmpP fun p q => !ltP p q) := by
  intro pins s σ H x y v u Q I rx ry h
  obtain ⟨a, b, p, q, rfl, rfl, ha, hb, k⟩ := h
  cases rx
  cases ry
  obtain ⟨t, u, p1⟩ := pair_at I ha
  obtain ⟨t', u', p2⟩ := pair_at I hb
  have R := Ob.RcOp.tuples_ge (A := X.A) (s := s) (r := fun j => if j = 0 then decide (q.1 ≤ p.1) else !decide (p.2.cps.toList < q.2.cps.toList)) p1 p2 hu (eq_at p q t u t' u') (fun j h1 h2 _ => by
    have hj : j = 0 ∨ j = 1 := by simp at h1; omega
    rcases hj with rfl | rfl
    · exact Ob.RcOp.ge_int _ _ _ _
    · exact fun prog w E Q h => PySem.P.ge_str h)
  have e : Ob.lexAt (fun j => if j = 0 then decide (p.1 = q.1) else decide (p.2 = q.2)) (fun j => if j = 0 then decide (q.1 ≤ p.1) else !decide (p.2.cps.toList < q.2.cps.toList)) (decide ((#[Value.int p.1 t, Value.str p.2 u] : Array Value).size ≥ (#[Value.int q.1 t', Value.str q.2 u'] : Array Value).size)) 0 (min (#[Value.int p.1 t, Value.str p.2 u] : Array Value).size (#[Value.int q.1 t', Value.str q.2 u'] : Array Value).size) = !ltP p q := by
    show Ob.lexAt _ _ (decide (2 ≥ 2)) 0 2 = _
    rw [Ob.lexAt_succ, Ob.lexAt_succ, Ob.lexAt_zero]
    unfold ltP
    by_cases c : p.1 = q.1
    · by_cases c2 : p.2 = q.2
      · simp [c, c2, List.lt_irrefl]
      · simp [c, c2]
    · simp only [c, decide_false, if_neg, if_false, Bool.false_eq_true, ite_false, if_true, ite_true]
      by_cases c3 : p.1 < q.1
      · simp [c3]
      · have : q.1 ≤ p.1 := by omega
        simp [c3, this]
  rw [e] at R
  exact R X.prog X.w X.xe (EP X pins σ Q) ⟨.bl _, H, I, rfl, k⟩
end
end My

set_option linter.all false
namespace My
open PySem PySem.Spec PyProof.Rows L2
/-! ### books of anything: the program's look -/
abbrev sWholeX : Stmt := topS 1
abbrev sBaseX : Stmt := topS 2
abbrev sNameX : Stmt := topS 3
abbrev sNamedX : Stmt := topS 4
abbrev sRisX : Stmt := topS 5
abbrev sIsPairX : Stmt := topS 9
abbrev sIsRowX : Stmt := topS 8
abbrev sIsBookX : Stmt := topS 7
theorem kit_strX : ∀ d : PyData, kitB (tyN d) "str" = some (isT "str" d)
  | .none => by decide +kernel
  | .bool _ => (by decide +kernel : kitB "bool" "str" = some false)
  | .int _ => (by decide +kernel : kitB "int" "str" = some false)
  | .str _ => (by decide +kernel : kitB "str" "str" = some true)
  | .list _ => (by decide +kernel : kitB "list" "str" = some false)
  | .tuple _ => (by decide +kernel : kitB "tuple" "str" = some false)
  | .dict _ => (by decide +kernel : kitB "dict" "str" = some false)
theorem kit_dictX : ∀ d : PyData, kitB (tyN d) "dict" = some (isT "dict" d)
  | .none => by decide +kernel
  | .bool _ => (by decide +kernel : kitB "bool" "dict" = some false)
  | .int _ => (by decide +kernel : kitB "int" "dict" = some false)
  | .str _ => (by decide +kernel : kitB "str" "dict" = some false)
  | .list _ => (by decide +kernel : kitB "list" "dict" = some false)
  | .tuple _ => (by decide +kernel : kitB "tuple" "dict" = some false)
  | .dict _ => (by decide +kernel : kitB "dict" "dict" = some true)
def letC (c : Nat) : Bool := decide (97 ≤ c) && decide (c ≤ 122)
def nameB (x : Str) : Bool := decide (1 ≤ x.length) && decide (x.length ≤ 8) && x.cps.toList.all letC
def nameD : PyData → Bool
  | .str x => nameB x
  | _ => false
def strIs (x : Str) : PyData → Bool
  | .str y => decide (y = x)
  | _ => false
def baseD : PyData → Bool
  | .int b => decide (2 ≤ b) && decide (b ≤ 10)
  | _ => false
def pairD (b : Int) (ks : List PyData) : PyData → Bool
  | .tuple [.int g, .str x] => decide (0 ≤ g) && decide (g < b) && ks.any (strIs x)
  | _ => false
def asPair : PyData → Int × Str
  | .tuple [.int g, .str x] => (g, x)
  | _ => (0, "")
def rise : List (Int × Str) → Bool
  | a :: b :: r => ltP a b && rise (b :: r)
  | _ => true
def rowD1 (b : Int) (ks : List PyData) : PyData → Bool
  | .tuple ps => decide (ps.length ≤ 12) && ps.all (pairD b ks) && rise (ps.map asPair)
  | _ => false
def namedD : PyData → Bool
  | .tuple [.int b, .dict ds] => decide (2 ≤ b) && decide (b ≤ 10) && decide (1 ≤ ds.length) && decide (ds.length ≤ 6) && (ds.map (·.1)).all nameD
  | _ => false
def rowsD : PyData → Bool
  | .tuple [.int b, .dict ds] => (ds.map (·.2)).all (rowD1 b (ds.map (·.1)))
  | _ => false
def isBookD (d : PyData) : Bool := namedD d && rowsD d
def StrOk (d : PyData) : Prop := ∀ x, d = .str x → x.length ≤ sizeLine ∧ PyData.strOk x = true
def FineB (d : PyData) : Prop := ∀ b ds, d = .tuple [b, .dict ds] → ∀ k ∈ ds.map (·.1), StrOk k
structure TxP (mg : Str → Option Value) : Prop where
  isi : mg "isinstance" = none
  len : mg "len" = none
  int : mg "int" = none
  bool : mg "bool" = none
  tuple : mg "tuple" = none
  str : mg "str" = none
  dict : mg "dict" = none
  all : mg "all" = none
  zip : mg "zip" = none
  list : mg "list" = none
  range : mg "range" = none
def spWholeX (w : World) : Sp := fun vs H Q _ => ∃ (v : V) (d : PyData), vs = [v] ∧ Dx w H v d ∧ Q (.bl (isT "int" d)) H
def spBaseX (w : World) : Sp := fun vs H Q _ => ∃ (v : V) (d : PyData), vs = [v] ∧ Dx w H v d ∧ Q (.bl (baseD d)) H
def spNameX (w : World) : Sp := fun vs H Q _ => ∃ (v : V) (d : PyData), vs = [v] ∧ Dx w H v d ∧ StrOk d ∧ ∀ H', Same H H' → Q (.bl (nameD d)) H'
def spNamedX (w : World) : Sp := fun vs H Q _ => ∃ (v : V) (d : PyData), vs = [v] ∧ Dx w H v d ∧ FineB d ∧ ∀ H', Same H H' → Q (.bl (namedD d)) H'
section
variable {P : Program} {w : World} {K : PySem.W.Frag} {mg : Str → Option Value} {base : Heap}
theorem scWholeX : FnScope ["thing"] ["thing"] (defScope sWholeX) := ⟨rfl, rfl, rfl, by decide +kernel, rfl, by decide +kernel, by decide +kernel⟩
theorem scBaseX : FnScope ["thing"] ["thing"] (defScope sBaseX) := ⟨rfl, rfl, rfl, by decide +kernel, rfl, by decide +kernel, by decide +kernel⟩
theorem scNameX : FnScope ["thing", "sign"] ["thing"] (defScope sNameX) := ⟨rfl, rfl, rfl, by decide +kernel, rfl, by decide +kernel, by decide +kernel⟩
theorem scNamedX : FnScope ["thing", "base", "rows", "name"] ["thing"] (defScope sNamedX) := ⟨rfl, rfl, rfl, by decide +kernel, rfl, by decide +kernel, by decide +kernel⟩
theorem scRisX : FnScope ["row", "one", "other"] ["row"] (defScope sRisX) := ⟨rfl, rfl, rfl, by decide +kernel, rfl, by decide +kernel, by decide +kernel⟩
theorem scIsPairX : FnScope ["book", "thing", "base", "rows", "digit", "name"] ["book", "thing"] (defScope sIsPairX) := ⟨rfl, rfl, rfl, by decide +kernel, rfl, by decide +kernel, by decide +kernel⟩
theorem scIsRowX : FnScope ["book", "row", "pair"] ["book", "row"] (defScope sIsRowX) := ⟨rfl, rfl, rfl, by decide +kernel, rfl, by decide +kernel, by decide +kernel⟩
theorem scIsBookX : FnScope ["thing", "row"] ["thing"] (defScope sIsBookX) := ⟨rfl, rfl, rfl, by decide +kernel, rfl, by decide +kernel, by decide +kernel⟩
theorem ok_wholeX {f : Addr} {fd : FuncData} (F : Fun K "is_whole" "is_whole" sWholeX f fd) (T : TxP mg) : FnOk P w K mg base CX0 1 f fd ["thing"] (spWholeX w) := by
  refine F.ok scWholeX (fun vs H Q E h => ?_) (fun cdv A outer s H vs Q E hr h => ?_)
  · obtain ⟨v, d, rfl, _⟩ := h
    rfl
  · obtain ⟨v, d, rfl, dv, k⟩ := h
    refine ⟨_, (pss_one (ps_ret (pe_and (pe_callB call_isiX (by rfl) T.isi boot_isinstance (pa_cons (pv 0) (pa_cons (pe_bltn (v := .ty "int") (by rfl) T.int boot_int rfl) pa_nil))) (pe_one (pe_not (pe_callB call_isiX (by rfl) T.isi boot_isinstance (pa_cons (pv 0) (pa_cons (pe_bltn (v := .ty "bool") (by rfl) T.bool boot_bool rfl) pa_nil)))))))), ?_⟩
    refine ⟨_, rfl, _, _, _, _, rfl, dv, kit_int _, _, rfl, ?_⟩
    cases hi : isT "int" d || isT "bool" d with
    | false =>
      have h1 : isT "int" d = false := by cases q : isT "int" d with | false => rfl | true => rw [q] at hi; cases hi
      rw [h1] at k
      exact iteF k
    | true =>
      refine iteT ⟨_, rfl, _, _, _, _, rfl, dv, kit_bool _, _, rfl, ?_⟩
      have h1 : (!isT "bool" d) = isT "int" d := by cases d <;> first | rfl | exact Bool.noConfusion (show false = true from hi)
      rw [h1]
      exact k
theorem ok_baseX {f fWh : Addr} {fd fdWh : FuncData} (F : Fun K "is_base" "is_base" sBaseX f fd) (T : TxP mg)
    (FWh : Fun K "is_whole" "is_whole" sWholeX fWh fdWh) (bWh : Binds K fdWh ["thing"] []) (gWh : mg "is_whole" = some (.ref fWh)) : FnOk P w K mg base CX0 2 f fd ["thing"] (spBaseX w) := by
  have GWh : FnOk P w K mg base CX0 1 fWh fdWh ["thing"] (spWholeX w) := ok_wholeX FWh T
  refine F.ok scBaseX (fun vs H Q E h => ?_) (fun cdv A outer s H vs Q E hr h => ?_)
  · obtain ⟨v, d, rfl, _⟩ := h
    rfl
  · obtain ⟨v, d, rfl, dv, k⟩ := h
    have hr1 := hr
    refine ⟨_, (pss_one (ps_ret (pe_and (pe_call GWh hr1 (by rfl) gWh FWh.kp bWh .nil pass0 (pa_cons (pv 0) pa_nil)) (pe_one (pe_chain op_le op_le pe_int (pv 0) pe_int))))), ?_⟩
    refine ⟨_, rfl, v, d, rfl, dv, _, rfl, ?_⟩
    cases d with
    | int b =>
      cases dv
      refine iteT ⟨_, rfl, _, _, rfl, rfl, _, rfl, ite2 (fun c => ⟨_, _, rfl, rfl, ?_⟩) (fun c => ?_)⟩
      · have : baseD (.int b) = decide (b ≤ 10) := by show (decide (2 ≤ b) && _) = _; rw [c, Bool.true_and]
        rw [this] at k; exact k
      · have : baseD (.int b) = false := by show (decide (2 ≤ b) && _) = _; rw [Bool.eq_false_iff.mpr c, Bool.false_and]
        rw [this] at k; exact k
    | _ => exact iteF k
theorem sign_le {c : Nat} : (!decide ((⟨#[c]⟩ : Str).cps.toList < ("a" : Str).cps.toList)) = decide (97 ≤ c) := by
  show (!decide ([c] < [97])) = _
  by_cases h : 97 ≤ c
  · rw [decide_eq_true h]
    have : ¬ [c] < [97] := by simp [List.cons_lt_cons_iff]; omega
    simp [this]
  · rw [decide_eq_false h]
    have : [c] < [97] := by simp [List.cons_lt_cons_iff]; omega
    simp [this]
theorem sign_le2 {c : Nat} : (!decide (("z" : Str).cps.toList < (⟨#[c]⟩ : Str).cps.toList)) = decide (c ≤ 122) := by
  show (!decide ([122] < [c])) = _
  by_cases h : c ≤ 122
  · rw [decide_eq_true h]
    have : ¬ [122] < [c] := by simp [List.cons_lt_cons_iff]; omega
    simp [this]
  · rw [decide_eq_false h]
    have : [122] < [c] := by simp [List.cons_lt_cons_iff]; omega
    simp [this]
theorem ok_nameX {f : Addr} {fd : FuncData} (F : Fun K "is_name" "is_name" sNameX f fd) (T : TxP mg) : FnOk P w K mg base CX0 1 f fd ["thing"] (spNameX w) := by
  refine F.ok scNameX (fun vs H Q E h => ?_) (fun cdv A outer s H vs Q E hr h => ?_)
  · obtain ⟨v, d, rfl, _⟩ := h
    rfl
  · obtain ⟨v, d, rfl, dv, so, k⟩ := h
    refine ⟨_, (pss_cons (ps_if (PW.pt (pw_or (pt_not (pt_val (pe_callB call_isiX (by rfl) T.isi boot_isinstance (pa_cons (pv 0) (pa_cons (pe_bltn (v := .ty "str") (by rfl) T.str boot_str rfl) pa_nil))))) (pw_or1 (pt_not (pt_chain op_le op_le pe_int (pe_callB call_len_str (by rfl) T.len PySem.boot_len (pa_cons (pv 0) pa_nil)) pe_int))))) (pss_one (ps_ret pe_bl)) pss_nil)
      (pss_one (ps_ret (pe_callB (cr_all rfl) (by rfl) T.all boot_all (pa_cons (pe_lc (own := [("sign", 1)]) (g := gName 1) (tt := tYes) rfl scNameX.nd (pi_str (pv 0)) (blkOk_by (N := ["thing", "sign"]) (sc := defScope sNameX) (by decide +kernel)) (fun _ _ _ _ _ => (pg_name (i := 1) scNameX.nd rfl (Or.inl rfl))) (fun _ _ _ _ _ => pts_nil) (fun _ _ _ _ _ => (pe_chain op_le_str op_le_str pe_str (pv 1) pe_str))) pa_nil))))), ?_⟩
    refine ⟨_, rfl, _, _, _, _, rfl, dv, kit_strX _, _, rfl, ?_⟩
    cases d with
    | str x =>
      cases dv
      have z := (so x rfl).1
      refine iteF ⟨_, rfl, _, rfl, z, _, _, rfl, rfl, _, rfl, ?_⟩
      by_cases c1 : 1 ≤ x.length
      · refine ifT (decide_eq_true (by omega)) ⟨_, _, rfl, rfl, _, rfl, ?_⟩
        by_cases c8 : x.length ≤ 8
        · refine ifF (by rw [decide_eq_true (show (x.length : Int) ≤ 8 by omega)]; rfl) ⟨_, rfl, ?_⟩
          refine ⟨_, rfl, fun D nD => ?_⟩
          refine lc_gen (walk_str (z := x)) (fun _ => true) (fun i => .bl (letC ((x.cps[i]?).getD 0))) nD (by have : x.cps.size = x.length := rfl; omega) (fun _ _ => trivial) (fun i y Ha Hb hi sa yy Q2 R q2 r2 => ?_) fun Ha sa hD => ?_
          · obtain ⟨rfl, c, hc, rfl⟩ := yy
            have q3 := q2 rfl Hb (Same.refl _)
            rw [hc] at q3
            refine ⟨rfl, ?_⟩
            unfold tYes
            dsimp only
            rw [if_pos rfl]
            refine ⟨_, rfl, _, _, rfl, rfl, _, rfl, ?_⟩
            rw [sign_le]
            refine ite2 (fun e => ⟨_, _, rfl, rfl, ?_⟩) fun e => ?_
            · rw [sign_le2]
              have : letC c = decide (c ≤ 122) := by unfold letC; rw [e, Bool.true_and]
              rw [← this]; exact q3
            · have : letC c = false := by unfold letC; rw [Bool.eq_false_iff.mpr e, Bool.false_and]
              rw [← this]; exact q3
          · rw [range_all x.cps.size (fun _ => true), bools_map] at hD
            refine ⟨D, _, rfl, SqL.of hD, ?_⟩
            have e1 : ((List.range x.cps.size).map fun i => letC ((x.cps[i]?).getD 0)).all id = x.cps.toList.all letC := by
              have := all_range x.cps.toList (fun i => letC ((x.cps[i]?).getD 0)) letC fun i a e => by
                rw [Array.getElem?_toList] at e; rw [e]; rfl
              rw [Array.length_toList] at this
              exact this
            rw [e1]
            have : nameD (.str x) = x.cps.toList.all letC := by show (decide (1 ≤ x.length) && decide (x.length ≤ 8) && _) = _; rw [decide_eq_true c1, decide_eq_true c8]; rfl
            rw [← this]; exact k Ha sa
        · refine ifT (by rw [decide_eq_false (show ¬ (x.length : Int) ≤ 8 by omega)]; rfl) ?_
          have : nameD (.str x) = false := by show (_ && decide (x.length ≤ 8) && _) = false; rw [decide_eq_false c8]; simp
          rw [← this]; exact k H (Same.refl H)
      · refine ifF (decide_eq_false (by omega)) ⟨_, rfl, iteT ?_⟩
        have : nameD (.str x) = false := by show (decide (1 ≤ x.length) && _ && _) = false; rw [decide_eq_false c1]; simp
        rw [← this]; exact k H (Same.refl H)
    | _ => exact iteT (k H (Same.refl H))
theorem DF.keyv {H : Hp} {d : Addr} {kvs : List Kvv} (h : DF w H d kvs) : ∀ x ∈ kvs, KeyV H x.1 x.2.1 := by
  obtain ⟨od, u, es, ep, _, _, _, _, hE, _⟩ := h
  intro x hx
  obtain ⟨i, hi⟩ := List.mem_iff_getElem?.mp hx
  obtain ⟨en, _, h2⟩ := hE.get hi
  exact h2.1
theorem key_text {H : Hp} {k : NestedKey} {v : V} {d : PyData} (hk : KeyV H k v) (hd : Dx w H v d) (x : Str) : decide (NestedKey.text x = k) = strIs x d := by
  cases hk with
  | str y =>
    cases hd
    show _ = decide (y = x)
    by_cases c : y = x
    · subst c; simp
    · rw [decide_eq_false c, decide_eq_false fun z => c (by injection z with z; exact z.symm)]
  | non => cases hd; rfl
  | bl b => cases hd; rfl
  | int i => cases hd; rfl
  | tup h1 h2 => cases hd <;> rfl
theorem keys_any {H : Hp} (x : Str) : ∀ {kvs : List Kvv} {ks : List PyData}, (∀ y ∈ kvs, KeyV H y.1 y.2.1) → DxAll w H (kvs.map fun y => y.2.1) ks → decide (NestedKey.text x ∈ kvs.map fun y : Kvv => y.1) = ks.any (strIs x)
  | [], _, _, h => by cases h; rfl
  | y :: r, _, hk, h => by
    cases h with
    | cons h1 h2 =>
      rw [List.any_cons, ← keys_any x (fun z hz => hk z (List.mem_cons_of_mem _ hz)) h2, ← key_text (hk y List.mem_cons_self) h1 x, List.map_cons]
      by_cases c : NestedKey.text x = y.1
      · simp [c]
      · simp [c]
def spPairX (w : World) : Sp := fun vs H Q _ => ∃ (bk rr : Addr) (v : V) (d : PyData) (b : Int) (kvs : List Kvv) (ks : List PyData), vs = [.ref bk, v] ∧ H bk = some (.tup [.int b, .ref rr]) ∧ DF w H rr kvs ∧ DxAll w H (kvs.map fun y => y.2.1) ks ∧ Dx w H v d ∧ Q (.bl (pairD b ks d)) H
theorem ok_ispairX {f fWh : Addr} {fd fdWh : FuncData} (F : Fun K "_is_pair" "_is_pair" sIsPairX f fd) (T : TxP mg)
    (FWh : Fun K "is_whole" "is_whole" sWholeX fWh fdWh) (bWh : Binds K fdWh ["thing"] []) (gWh : mg "is_whole" = some (.ref fWh)) : FnOk P w K mg base CX0 2 f fd ["book", "thing"] (spPairX w) := by
  have GWh : FnOk P w K mg base CX0 1 fWh fdWh ["thing"] (spWholeX w) := ok_wholeX FWh T
  refine F.ok scIsPairX (fun vs H Q E h => ?_) (fun cdv A outer s H vs Q E hr h => ?_)
  · obtain ⟨bk, rr, v, d, b, kvs, ks, rfl, _⟩ := h
    rfl
  · obtain ⟨bk, rr, v, d, b, kvs, ks, rfl, hb, hdf, hks, dv, k⟩ := h
    have hr1 := hr
    have hu9 : (A.deeper (envOfC (Str.ofString "_is_pair") (defScope sIsPairX) s.heap.objs.size f cdv)).units + 9 < cLine := by have := hr.un; omega
    refine ⟨_, (pss_cons (ps_if (PW.pt (pw_or (pt_not (pt_val (pe_callB call_isiX (by rfl) T.isi boot_isinstance (pa_cons (pv 1) (pa_cons (pe_bltn (v := .ty "tuple") (by rfl) T.tuple boot_tuple rfl) pa_nil))))) (pw_or1 (pt_cmpR op_ne (pe_callB call_len_seq (by rfl) T.len PySem.boot_len (pa_cons (pv 1) pa_nil)) pe_int (nomark _))))) (pss_one (ps_ret pe_bl)) pss_nil)
      (pss_cons (ps_asg (pv 0) (pg_tup (by rfl) (pgs_cons (pg_name (i := 2) scIsPairX.nd rfl (Or.inl rfl)) (pgs_cons (pg_name (i := 3) scIsPairX.nd rfl (Or.inl rfl)) pgs_nil))))
      (pss_cons (ps_asg (pv 1) (pg_tup (by rfl) (pgs_cons (pg_name (i := 4) scIsPairX.nd rfl (Or.inl rfl)) (pgs_cons (pg_name (i := 5) scIsPairX.nd rfl (Or.inl rfl)) pgs_nil))))
      (pss_cons (ps_if (PW.pt (pw_or (pt_not (pt_val (pe_call GWh hr1 (by rfl) gWh FWh.kp bWh .nil pass0 (pa_cons (pv 4) pa_nil)))) (pw_or1 (pt_not (pt_chain op_le op_lt pe_int (pv 4) (pv 2)))))) (pss_one (ps_ret pe_bl)) pss_nil)
      (pss_one (ps_ret (pe_and (pe_callB call_isiX (by rfl) T.isi boot_isinstance (pa_cons (pv 5) (pa_cons (pe_bltn (v := .ty "str") (by rfl) T.str boot_str rfl) pa_nil))) (pe_one (pe_cmpR (op_inF hu9) (pv 5) (pv 3) (by rfl)))))))))), ?_⟩
    refine ⟨_, rfl, _, _, _, _, rfl, dv, kit_tuple _, _, rfl, ?_⟩
    cases dv with
    | tup h1 h2 =>
      rename_i a xs ds
      refine iteF ⟨_, rfl, a, _, rfl, .inr (SqT.of h1), rfl, _, rfl, ?_⟩
      have ln := h2.len
      by_cases l2 : xs.length = 2
      · refine ifF (by simp [l2]) ?_
        obtain ⟨d0, d1, rfl⟩ : ∃ d0 d1, ds = [d0, d1] := by
          match ds, (ln.symm.trans l2 : ds.length = 2) with
          | [d0, d1], _ => exact ⟨d0, d1, rfl⟩
        cases h2 with
        | cons q0 r0 =>
          cases r0 with
          | cons q1 r1 =>
            cases r1
            rename_i v0 v1
            refine ⟨_, rfl, bk, _, rfl, SqT.of hb, rfl, _, _, rfl, _, _, rfl, rfl, ?_⟩
            refine ⟨_, rfl, a, _, rfl, SqT.of h1, rfl, _, _, rfl, _, _, rfl, rfl, ?_⟩
            refine ⟨_, rfl, v0, d0, rfl, q0, _, rfl, ?_⟩
            cases d0 with
            | int g =>
              cases q0
              refine iteF ⟨_, rfl, _, _, rfl, rfl, _, rfl, ?_⟩
              by_cases g0 : 0 ≤ g
              · refine ifT (decide_eq_true g0) ⟨_, rfl, _, _, rfl, rfl, _, rfl, ?_⟩
                by_cases g1 : g < b
                · refine ifF (by rw [decide_eq_true g1]; rfl) ?_
                  refine ⟨_, rfl, _, _, _, _, rfl, q1, kit_strX _, _, rfl, ?_⟩
                  cases d1 with
                  | str x =>
                    cases q1
                    refine iteT ⟨_, rfl, _, rfl, rr, kvs, .text x, rfl, hdf, .str x, by show 0 ≤ 8; decide, ?_⟩
                    rw [keys_any x hdf.keyv hks]
                    have : pairD b ks (.tuple [.int g, .str x]) = ks.any (strIs x) := by show (decide (0 ≤ g) && decide (g < b) && _) = _; rw [decide_eq_true g0, decide_eq_true g1]; rfl
                    rw [← this]; exact k
                  | _ => exact iteF k
                · refine ifT (by rw [decide_eq_false g1]; rfl) ?_
                  have : pairD b ks (.tuple [.int g, d1]) = false := by cases d1 <;> first | rfl | (show (_ && decide (g < b) && _) = false; rw [decide_eq_false g1]; simp)
                  rw [← this]; exact k
              · refine ifF (decide_eq_false g0) ⟨_, rfl, iteT ?_⟩
                have : pairD b ks (.tuple [.int g, d1]) = false := by cases d1 <;> first | rfl | (show (decide (0 ≤ g) && _ && _) = false; rw [decide_eq_false g0]; simp)
                rw [← this]; exact k
            | _ => exact iteT k
      · refine ifT (by simp; omega) ?_
        have : pairD b ks (.tuple ds) = false := by
          match ds, ln with
          | [], _ => simp only [pairD]
          | [_], _ => simp only [pairD]
          | [_, _], e => exact absurd e l2
          | _ :: _ :: _ :: _, _ => simp only [pairD]
        rw [← this]; exact k
    | _ => exact iteT k
theorem pairD_shape {b : Int} {ks : List PyData} {d : PyData} (h : pairD b ks d = true) : d = .tuple [.int (asPair d).1, .str (asPair d).2] := by
  unfold pairD at h
  split at h
  · rfl
  · cases h
theorem cut_one (xs : List V) : cutV xs (some 1) none = xs.drop 1 := by
  unfold cutV
  have a1 : HT.sIx xs.length xs.length none = xs.length := rfl
  have a2 : HT.sIx xs.length 0 (some 1) = min 1 xs.length := HT.sIx_nat _ _ 1
  rw [a1, a2]
  cases xs with
  | nil => rfl
  | cons x r =>
    rw [show min 1 (x :: r).length = 1 by simp]
    rw [List.take_of_length_le (by rw [List.length_drop]; exact Nat.le_refl _)]
def spRisX (w : World) : Sp := fun vs H Q _ => ∃ (a : Addr) (xs : List V) (ps : List PyData), vs = [.ref a] ∧ H a = some (.tup xs) ∧ DxAll w H xs ps ∧ ps.length ≤ 12 ∧ (∀ d ∈ ps, d = .tuple [.int (asPair d).1, .str (asPair d).2]) ∧ ∀ H', Same H H' → Q (.bl (rise (ps.map asPair))) H'
theorem rise_all (l : List (Int × Str)) : ∀ (f : Nat → Bool), (∀ i a b, l[i]? = some a → l[i + 1]? = some b → f i = ltP a b) → ((List.range (l.length - 1)).map f).all id = rise l := by
  induction l with
  | nil => intro f _; rfl
  | cons a r ih =>
    intro f hf
    cases r with
    | nil => rfl
    | cons b r =>
      show ((List.range (r.length + 1)).map f).all id = (ltP a b && rise (b :: r))
      rw [List.range_succ_eq_map, List.map_cons, List.all_cons, List.map_map]
      have := ih (f ∘ Nat.succ) fun i x y e1 e2 => hf (i + 1) x y (by simpa using e1) (by simpa using e2)
      rw [show (b :: r).length - 1 = r.length from rfl] at this
      rw [this, hf 0 a b rfl rfl]
      rfl
theorem ok_risX {f : Addr} {fd : FuncData} (F : Fun K "is_rising" "is_rising" sRisX f fd) (T : TxP mg) : FnOk P w K mg base CX0 1 f fd ["row"] (spRisX w) := by
  refine F.ok scRisX (fun vs H Q E h => ?_) (fun cdv A outer s H vs Q E hr h => ?_)
  · obtain ⟨a, xs, ps, rfl, _⟩ := h
    rfl
  · obtain ⟨a, xs, ps, rfl, ha, hx, h12, hp, k⟩ := h
    refine ⟨_, (pss_one (ps_ret (pe_callB (cr_all rfl) (by rfl) T.all boot_all (pa_cons (pe_lc (own := [("one", 1), ("other", 2)]) (g := gTup K 2 (gCons (gName 1) (gCons (gName 2) gNil))) (tt := tYes) rfl scRisX.nd (RZ.pi_zipA (by rfl) T.zip (pa_cons (pv 0) (pa_cons (pe_slice sl_tupG (pv 0) (po_some pe_int) po_none) pa_nil))) (blkOk_by (N := ["row", "one", "other"]) (sc := defScope sRisX) (by decide +kernel)) (fun _ _ _ _ _ => (pg_tup (by rfl) (pgs_cons (pg_name (i := 1) scRisX.nd rfl (Or.inl rfl)) (pgs_cons (pg_name (i := 2) scRisX.nd rfl (Or.inl rfl)) pgs_nil)))) (fun _ _ _ _ _ => pts_nil) (fun _ _ _ _ _ => (pe_cmpR (op_ltP hr.units0) (pv 1) (pv 2) (nomark _)))) pa_nil)))), ?_⟩
    refine ⟨_, rfl, _, rfl, 1, rfl, H, a, xs, rfl, Same.refl H, ha, fun c G' H1 m hc => ?_⟩
    have sH := m.hh
    have hc2 := m.gh _ _ hc
    rw [cut_one] at hc2
    refine ⟨a, c, xs, xs.drop 1, rfl, .inr ⟨SqT.of (sH _ _ ha), SqT.of hc2, fun D nD => ?_⟩⟩
    have ln := hx.len
    refine lc_gen (walk_two (K := K) (a := a) (b := c) (us := xs) (ys := xs.drop 1) rfl) (fun _ => true) (fun i => .bl (ltP ((ps[i]?).elim (0, "") asPair) ((ps[i + 1]?).elim (0, "") asPair))) nD (by rw [sizeLine_eq]; omega) (fun Ha sa => ⟨SqT.of (sa _ _ (sH _ _ ha)), SqT.of (sa _ _ hc2)⟩) (fun i y Ha Hb hi sa yy Q2 R q2 r2 => ?_) fun Ha sa hD => ?_
    · obtain ⟨T', x0, x1, rfl, nT, rfl, e0, e1⟩ := yy
      dsimp only at e0 e1
      rw [List.getElem?_drop] at e1
      obtain ⟨d0, g0, q0⟩ := hx.get e0
      obtain ⟨d1, g1, q1⟩ := hx.get (show xs[i + 1]? = some x1 by rw [Nat.add_comm]; exact e1)
      have sT : Same Ha (upd Ha T' (.tup [x0, x1])) := Same.upd nT
      have q3 := q2 rfl _ sT
      rw [g0, g1] at q3
      have w0 := (q0.mono (sH.trans sa)).mono sT
      have w1 := (q1.mono (sH.trans sa)).mono sT
      rw [hp d0 (List.mem_of_getElem? g0)] at w0
      rw [hp d1 (List.mem_of_getElem? g1)] at w1
      cases w0 with
      | tup z1 y1 => cases y1 with | cons a1 b1 => cases b1 with | cons a2 b2 =>
      cases b2; cases a1; cases a2
      cases w1 with
      | tup z2 y2 => cases y2 with | cons a3 b3 => cases b3 with | cons a4 b4 =>
      cases b4; cases a3; cases a4
      refine ⟨T', _, rfl, SqT.of upd_same, rfl, _, _, rfl, _, _, rfl, rfl, rfl, ?_⟩
      unfold tYes
      dsimp only
      rw [if_pos rfl]
      exact ⟨_, rfl, _, rfl, _, _, _, _, rfl, rfl, z1, z2, q3⟩
    · rw [range_all _ (fun _ => true), bools_map] at hD
      refine ⟨D, _, rfl, SqL.of hD, ?_⟩
      have e2 : min xs.length (xs.drop 1).length = (ps.map asPair).length - 1 := by rw [List.length_drop, List.length_map]; omega
      rw [e2, rise_all (ps.map asPair) _ fun i a b g1 g2 => ?_]
      · exact k Ha (sH.trans sa)
      · rw [List.getElem?_map] at g1 g2
        cases h1 : ps[i]? with
        | none => rw [h1] at g1; cases g1
        | some d1 =>
          cases h2 : ps[i + 1]? with
          | none => rw [h2] at g2; cases g2
          | some d2 =>
            rw [h1] at g1; rw [h2] at g2
            cases g1; cases g2
            rfl
def spRowX (w : World) : Sp := fun vs H Q _ => ∃ (bk rr : Addr) (v : V) (d : PyData) (b : Int) (kvs : List Kvv) (ks : List PyData), vs = [.ref bk, v] ∧ H bk = some (.tup [.int b, .ref rr]) ∧ DF w H rr kvs ∧ DxAll w H (kvs.map fun y => y.2.1) ks ∧ Dx w H v d ∧ ∀ H', Same H H' → Q (.bl (rowD1 b ks d)) H'
theorem ok_isrowX {f fPr fRi : Addr} {fd fdPr fdRi : FuncData} (F : Fun K "_is_row" "_is_row" sIsRowX f fd) (T : TxP mg)
    (FPr : Fun K "_is_pair" "_is_pair" sIsPairX fPr fdPr) (GPr : FnOk P w K mg base CX0 2 fPr fdPr ["book", "thing"] (spPairX w)) (bPr : Binds K fdPr ["book", "thing"] []) (gPr : mg "_is_pair" = some (.ref fPr))
    (FRi : Fun K "is_rising" "is_rising" sRisX fRi fdRi) (bRi : Binds K fdRi ["row"] []) (gRi : mg "is_rising" = some (.ref fRi)) : FnOk P w K mg base CX0 3 f fd ["book", "row"] (spRowX w) := by
  have GRi : FnOk P w K mg base CX0 1 fRi fdRi ["row"] (spRisX w) := ok_risX FRi T
  refine F.ok scIsRowX (fun vs H Q E h => ?_) (fun cdv A outer s H vs Q E hr h => ?_)
  · obtain ⟨bk, rr, v, d, b, kvs, ks, rfl, _⟩ := h
    rfl
  · obtain ⟨bk, rr, v, d, b, kvs, ks, rfl, hb, hdf, hks, dv, k⟩ := h
    have hr2 := hr
    have hr1 := hr.mono (show 1 ≤ 2 by decide)
    refine ⟨_, (pss_cons (ps_if (PW.pt (pw_or (pt_not (pt_val (pe_callB call_isiX (by rfl) T.isi boot_isinstance (pa_cons (pv 1) (pa_cons (pe_bltn (v := .ty "tuple") (by rfl) T.tuple boot_tuple rfl) pa_nil))))) (pw_or1 (pt_cmpR op_gt (pe_callB call_len_seq (by rfl) T.len PySem.boot_len (pa_cons (pv 1) pa_nil)) pe_int (nomark _))))) (pss_one (ps_ret pe_bl)) pss_nil)
      (pss_one (ps_ret (pe_and (pe_callB (cr_all rfl) (by rfl) T.all boot_all (pa_cons (pe_lc (own := [("pair", 2)]) (g := gName 2) (tt := tYes) rfl scIsRowX.nd (pi_tup (pv 1)) (blkOk_by (N := ["book", "row", "pair"]) (sc := defScope sIsRowX) (by decide +kernel)) (fun _ _ _ _ _ => (pg_name (i := 2) scIsRowX.nd rfl (Or.inl rfl))) (fun _ _ _ _ _ => pts_nil) (fun _ _ _ _ _ => (pe_call GPr hr2 (by rfl) gPr FPr.kp bPr .nil pass0 (pa_cons (pv 0) (pa_cons (pv 2) pa_nil))))) pa_nil)) (pe_one (pe_call GRi hr1 (by rfl) gRi FRi.kp bRi .nil pass0 (pa_cons (pv 1) pa_nil))))))), ?_⟩
    refine ⟨_, rfl, _, _, _, _, rfl, dv, kit_tuple _, _, rfl, ?_⟩
    cases dv with
    | tup h1 h2 =>
      rename_i a xs ps
      have ln := h2.len
      refine iteF ⟨_, rfl, a, _, rfl, .inr (SqT.of h1), _, _, rfl, rfl, _, rfl, ?_⟩
      by_cases l12 : ps.length ≤ 12
      · refine ifF (decide_eq_false (by omega)) ?_
        refine ⟨_, rfl, a, rfl, ⟨_, SqT.of h1⟩, fun D nD => ?_⟩
        refine lc_gen (walk_tup (K := K) (a := a) (xs := xs)) (fun _ => true) (fun i => .bl ((ps[i]?).elim false (pairD b ks))) nD (by rw [sizeLine_eq]; omega) (fun Ha sa => SqT.of (sa _ _ h1)) (fun i y Ha Hb hi sa yy Q2 R q2 r2 => ?_) fun Ha sa hD => ?_
        · obtain ⟨rfl, ey⟩ := yy
          obtain ⟨d0, g0, q0⟩ := h2.get ey
          have q3 := q2 rfl Hb (Same.refl _)
          rw [g0] at q3
          refine ⟨rfl, ?_⟩
          unfold tYes
          dsimp only
          rw [if_pos rfl]
          exact ⟨_, rfl, _, rfl, bk, rr, y, d0, b, kvs, ks, rfl, sa _ _ hb, hdf.mono sa, hks.mono sa, q0.mono sa, q3⟩
        · rw [range_all xs.length (fun _ => true), bools_map] at hD
          refine ⟨D, _, rfl, SqL.of hD, _, rfl, ?_⟩
          have e1 : ((List.range xs.length).map fun i => (ps[i]?).elim false (pairD b ks)).all id = ps.all (pairD b ks) := by
            rw [ln]
            exact all_range ps _ (pairD b ks) fun i a e => by rw [e]; rfl
          rw [e1]
          cases hall : ps.all (pairD b ks) with
          | false =>
            refine iteF ?_
            have : rowD1 b ks (.tuple ps) = false := by show (_ && ps.all (pairD b ks) && _) = false; rw [hall]; simp
            rw [← this]; exact k Ha sa
          | true =>
            refine iteT ⟨_, rfl, a, xs, ps, rfl, sa _ _ h1, h2.mono sa, l12, fun d hd => pairD_shape (List.all_eq_true.mp hall d hd), fun Hb sb => ?_⟩
            have : rowD1 b ks (.tuple ps) = rise (ps.map asPair) := by show (decide (ps.length ≤ 12) && ps.all (pairD b ks) && _) = _; rw [hall, decide_eq_true l12]; rfl
            rw [← this]; exact k Hb (sa.trans sb)
      · refine ifT (decide_eq_true (by omega)) ?_
        have : rowD1 b ks (.tuple ps) = false := by show (decide (ps.length ≤ 12) && _ && _) = false; rw [decide_eq_false l12]; simp
        rw [← this]; exact k H (Same.refl H)
    | _ => exact iteT (k H (Same.refl H))
theorem named_two {d0 d1 : PyData} : namedD (.tuple [d0, d1]) = (baseD d0 && match d1 with | .dict ds => decide (1 ≤ ds.length) && decide (ds.length ≤ 6) && (ds.map (·.1)).all nameD | _ => false) := by
  cases d0 with
  | int b =>
    cases d1 with
    | dict ds =>
      show (_ && _ && _ && _ && _) = ((_ && _) && (_ && _ && _))
      simp only [Bool.and_assoc]
    | _ => simp [namedD]
  | _ => rfl
theorem ok_namedX {f fBa fNa fWh : Addr} {fd fdBa fdNa fdWh : FuncData} (F : Fun K "has_named_rows" "has_named_rows" sNamedX f fd) (T : TxP mg)
    (FWh : Fun K "is_whole" "is_whole" sWholeX fWh fdWh) (bWh : Binds K fdWh ["thing"] []) (gWh : mg "is_whole" = some (.ref fWh))
    (FBa : Fun K "is_base" "is_base" sBaseX fBa fdBa) (bBa : Binds K fdBa ["thing"] []) (gBa : mg "is_base" = some (.ref fBa))
    (FNa : Fun K "is_name" "is_name" sNameX fNa fdNa) (bNa : Binds K fdNa ["thing"] []) (gNa : mg "is_name" = some (.ref fNa)) : FnOk P w K mg base CX0 3 f fd ["thing"] (spNamedX w) := by
  have GBa : FnOk P w K mg base CX0 2 fBa fdBa ["thing"] (spBaseX w) := ok_baseX FBa T FWh bWh gWh
  have GNa : FnOk P w K mg base CX0 1 fNa fdNa ["thing"] (spNameX w) := ok_nameX FNa T
  refine F.ok scNamedX (fun vs H Q E h => ?_) (fun cdv A outer s H vs Q E hr h => ?_)
  · obtain ⟨v, d, rfl, _⟩ := h
    rfl
  · obtain ⟨v, d, rfl, dv, fb, k⟩ := h
    have hr2 := hr
    have hr1 := hr.mono (show 1 ≤ 2 by decide)
    refine ⟨_, (pss_cons (ps_if (PW.pt (pw_or (pt_not (pt_val (pe_callB call_isiX (by rfl) T.isi boot_isinstance (pa_cons (pv 0) (pa_cons (pe_bltn (v := .ty "tuple") (by rfl) T.tuple boot_tuple rfl) pa_nil))))) (pw_or1 (pt_cmpR op_ne (pe_callB call_len_seq (by rfl) T.len PySem.boot_len (pa_cons (pv 0) pa_nil)) pe_int (nomark _))))) (pss_one (ps_ret pe_bl)) pss_nil)
      (pss_cons (ps_asg (pv 0) (pg_tup (by rfl) (pgs_cons (pg_name (i := 1) scNamedX.nd rfl (Or.inl rfl)) (pgs_cons (pg_name (i := 2) scNamedX.nd rfl (Or.inl rfl)) pgs_nil))))
      (pss_cons (ps_if (PW.pt (pw_or (pt_not (pt_val (pe_call GBa hr2 (by rfl) gBa FBa.kp bBa .nil pass0 (pa_cons (pv 1) pa_nil)))) (pw_or (pt_not (pt_val (pe_callB call_isiX (by rfl) T.isi boot_isinstance (pa_cons (pv 2) (pa_cons (pe_bltn (v := .ty "dict") (by rfl) T.dict boot_dict rfl) pa_nil))))) (pw_or1 (pt_not (pt_chain op_le op_le pe_int (pe_callB call_lenF (by rfl) T.len PySem.boot_len (pa_cons (pv 2) pa_nil)) pe_int)))))) (pss_one (ps_ret pe_bl)) pss_nil)
      (pss_one (ps_ret (pe_callB (cr_all rfl) (by rfl) T.all boot_all (pa_cons (pe_lc (own := [("name", 3)]) (g := gName 3) (tt := tYes) rfl scNamedX.nd (pi_keysF (pv 2)) (blkOk_by (N := ["thing", "base", "rows", "name"]) (sc := defScope sNamedX) (by decide +kernel)) (fun _ _ _ _ _ => (pg_name (i := 3) scNamedX.nd rfl (Or.inl rfl))) (fun _ _ _ _ _ => pts_nil) (fun _ _ _ _ _ => (pe_call GNa hr1 (by rfl) gNa FNa.kp bNa .nil pass0 (pa_cons (pv 3) pa_nil)))) pa_nil))))))), ?_⟩
    refine ⟨_, rfl, _, _, _, _, rfl, dv, kit_tuple _, _, rfl, ?_⟩
    cases dv with
    | tup h1 h2 =>
      rename_i a xs ds
      refine iteF ⟨_, rfl, a, _, rfl, .inr (SqT.of h1), rfl, _, rfl, ?_⟩
      have ln := h2.len
      by_cases l2 : xs.length = 2
      · refine ifF (by simp [l2]) ?_
        obtain ⟨d0, d1, rfl⟩ : ∃ d0 d1, ds = [d0, d1] := by
          match ds, (ln.symm.trans l2 : ds.length = 2) with
          | [d0, d1], _ => exact ⟨d0, d1, rfl⟩
        cases h2 with
        | cons q0 r0 =>
          cases r0 with
          | cons q1 r1 =>
            cases r1
            rename_i v0 v1
            refine ⟨_, rfl, a, _, rfl, SqT.of h1, rfl, _, _, rfl, _, _, rfl, rfl, ?_⟩
            refine ⟨_, rfl, v0, d0, rfl, q0, _, rfl, ?_⟩
            cases hb : baseD d0 with
            | false =>
              refine iteT ?_
              have : namedD (.tuple [d0, d1]) = false := by rw [named_two, hb]; rfl
              rw [← this]; exact k H (Same.refl H)
            | true =>
              refine iteF ⟨_, rfl, _, _, _, _, rfl, q1, kit_dictX _, _, rfl, ?_⟩
              cases q1 with
              | dct hdf hk hv =>
                rename_i rr kvs es
                have e0 := hk.len
                rw [List.length_map, List.length_map] at e0
                refine iteF ⟨_, rfl, rr, kvs, rfl, hdf, _, _, rfl, rfl, _, rfl, ?_⟩
                by_cases c1 : 1 ≤ kvs.length
                · refine ifT (decide_eq_true (by omega)) ⟨_, _, rfl, rfl, _, rfl, ?_⟩
                  by_cases c6 : kvs.length ≤ 6
                  · refine ifF (by rw [decide_eq_true (show (kvs.length : Int) ≤ 6 by omega)]; rfl) ?_
                    refine ⟨_, rfl, rr, kvs, rfl, hdf, fun od u hod D nD => ?_⟩
                    refine lc_gen (walk_keysF (w := w) (d := rr) (od := od) (kvs := kvs)) (fun _ => true) (fun i => .bl (((es.map (·.1))[i]?).elim false nameD)) nD (by rw [sizeLine_eq]; omega) (fun Ha sa => ⟨⟨u, sa _ _ hod⟩, hdf.mono sa⟩) (fun i y Ha Hb hi sa yy Q2 R q2 r2 => ?_) fun Ha sa hD => ?_
                    · obtain ⟨rfl, kk, vv, ey⟩ := yy
                      obtain ⟨d2, g0, q0⟩ := hk.get (i := i) (v := y) (by rw [List.getElem?_map, ey]; rfl)
                      refine ⟨rfl, ?_⟩
                      unfold tYes
                      dsimp only
                      rw [if_pos rfl]
                      refine ⟨_, rfl, y, d2, rfl, q0.mono sa, fb d0 es rfl d2 (List.mem_of_getElem? g0), fun H4 s4 => ?_⟩
                      have q3 := q2 rfl H4 s4
                      rw [g0] at q3
                      exact q3
                    · rw [range_all kvs.length (fun _ => true), bools_map] at hD
                      refine ⟨D, _, rfl, SqL.of hD, ?_⟩
                      have e1 : ((List.range kvs.length).map fun i => ((es.map (·.1))[i]?).elim false nameD).all id = (es.map (·.1)).all nameD := by
                        have := all_range (es.map (·.1)) (fun i => ((es.map (·.1))[i]?).elim false nameD) nameD fun i a e => by rw [e]; rfl
                        rw [List.length_map, ← e0] at this
                        exact this
                      rw [e1]
                      have : namedD (.tuple [d0, .dict es]) = (es.map (·.1)).all nameD := by
                        rw [named_two, hb]
                        show (true && (decide (1 ≤ es.length) && decide (es.length ≤ 6) && _)) = _
                        rw [← e0, decide_eq_true c1, decide_eq_true c6]; rfl
                      rw [← this]; exact k Ha sa
                  · refine ifT (by rw [decide_eq_false (show ¬ (kvs.length : Int) ≤ 6 by omega)]; rfl) ?_
                    have : namedD (.tuple [d0, .dict es]) = false := by
                      rw [named_two, hb]
                      show (true && (decide (1 ≤ es.length) && decide (es.length ≤ 6) && _)) = _
                      rw [← e0, decide_eq_false c6]; simp
                    rw [← this]; exact k H (Same.refl H)
                · refine ifF (decide_eq_false (by omega)) ⟨_, rfl, iteT ?_⟩
                  have : namedD (.tuple [d0, .dict es]) = false := by
                    rw [named_two, hb]
                    show (true && (decide (1 ≤ es.length) && decide (es.length ≤ 6) && _)) = _
                    rw [← e0, decide_eq_false c1]; simp
                  rw [← this]; exact k H (Same.refl H)
              | _ =>
                refine iteT ?_
                refine (congrArg (fun z => Q (.bl z) H) (show namedD _ = false from ?_)).mp (k H (Same.refl H))
                rw [named_two]; simp
      · refine ifT (by simp; omega) ?_
        have : namedD (.tuple ds) = false := by
          match ds, ln with
          | [], _ => simp only [namedD]
          | [_], _ => simp only [namedD]
          | [_, _], e => exact absurd e l2
          | _ :: _ :: _ :: _, _ => simp only [namedD]
        rw [← this]; exact k H (Same.refl H)
    | _ => exact iteT (k H (Same.refl H))
def spBookX (w : World) : Sp := fun vs H Q _ => ∃ (v : V) (d : PyData), vs = [v] ∧ Dx w H v d ∧ FineB d ∧ ∀ H', Same H H' → Q (.bl (isBookD d)) H'
theorem named_shape {d : PyData} (h : namedD d = true) : ∃ b ds, d = .tuple [.int b, .dict ds] ∧ ds.length ≤ 6 := by
  unfold namedD at h
  split at h
  · rename_i b ds
    simp only [Bool.and_eq_true] at h
    exact ⟨b, ds, rfl, of_decide_eq_true h.1.2⟩
  · cases h
theorem ok_isbookX {f fNm fRw : Addr} {fd fdNm fdRw : FuncData} (F : Fun K "is_book" "is_book" sIsBookX f fd) (T : TxP mg)
    (FNm : Fun K "has_named_rows" "has_named_rows" sNamedX fNm fdNm) (GNm : FnOk P w K mg base CX0 3 fNm fdNm ["thing"] (spNamedX w)) (bNm : Binds K fdNm ["thing"] []) (gNm : mg "has_named_rows" = some (.ref fNm))
    (FRw : Fun K "_is_row" "_is_row" sIsRowX fRw fdRw) (GRw : FnOk P w K mg base CX0 3 fRw fdRw ["book", "row"] (spRowX w)) (bRw : Binds K fdRw ["book", "row"] []) (gRw : mg "_is_row" = some (.ref fRw)) : FnOk P w K mg base CX0 4 f fd ["thing"] (spBookX w) := by
  refine F.ok scIsBookX (fun vs H Q E h => ?_) (fun cdv A outer s H vs Q E hr h => ?_)
  · obtain ⟨v, d, rfl, _⟩ := h
    rfl
  · obtain ⟨v, d, rfl, dv, fb, k⟩ := h
    have hr3 := hr
    refine ⟨_, (pss_one (ps_ret (pe_and (pe_call GNm hr3 (by rfl) gNm FNm.kp bNm .nil pass0 (pa_cons (pv 0) pa_nil)) (pe_one (pe_callB (cr_all rfl) (by rfl) T.all boot_all (pa_cons (pe_lc (own := [("row", 1)]) (g := gName 1) (tt := tYes) rfl scIsBookX.nd (pi_valsF (pe_ix ix_tup (pv 0) pe_int (fun _ _ => rfl))) (blkOk_by (N := ["thing", "row"]) (sc := defScope sIsBookX) (by decide +kernel)) (fun _ _ _ _ _ => (pg_name (i := 1) scIsBookX.nd rfl (Or.inl rfl))) (fun _ _ _ _ _ => pts_nil) (fun _ _ _ _ _ => (pe_call GRw hr3 (by rfl) gRw FRw.kp bRw .nil pass0 (pa_cons (pv 0) (pa_cons (pv 1) pa_nil))))) pa_nil)))))), ?_⟩
    refine ⟨_, rfl, v, d, rfl, dv, fb, fun H1 s1 => ⟨_, rfl, ?_⟩⟩
    cases hn : namedD d with
    | false =>
      refine iteF ?_
      have : isBookD d = false := by unfold isBookD; rw [hn]; rfl
      rw [← this]; exact k H1 s1
    | true =>
      obtain ⟨b, ds, rfl, l6⟩ := named_shape hn
      have e0 : isBookD (.tuple [.int b, .dict ds]) = (ds.map (·.2)).all (rowD1 b (ds.map (·.1))) := by unfold isBookD; rw [hn]; rfl
      rw [e0] at k
      cases dv with
      | tup h1 h2 =>
        cases h2 with
        | cons q0 r0 =>
          cases q0
          cases r0 with
          | cons q1 r1 =>
            cases r1
            cases q1 with
            | dct hdf hk hv =>
              rename_i a rr kvs
              have ek := hk.len
              rw [List.length_map, List.length_map] at ek
              refine iteT ⟨_, rfl, a, _, _, _, rfl, rfl, SqT.of (s1 _ _ h1), rfl, rr, kvs, rfl, hdf.mono s1, fun od u hod D nD => ?_⟩
              refine lc_gen (walk_valsF (w := w) (d := rr) (od := od) (kvs := kvs)) (fun _ => true) (fun i => .bl (((ds.map (·.2))[i]?).elim false (rowD1 b (ds.map (·.1))))) nD (by rw [sizeLine_eq]; omega) (fun Ha sa => ⟨⟨u, sa _ _ hod⟩, hdf.mono (s1.trans sa)⟩) (fun i y Ha Hb hi sa yy Q2 R q2 r2 => ?_) fun Ha sa hD => ?_
              · obtain ⟨rfl, kk, vv, ey⟩ := yy
                obtain ⟨d2, g0, q0⟩ := hv.get (i := i) (v := y) (by rw [List.getElem?_map, ey]; rfl)
                refine ⟨rfl, ?_⟩
                unfold tYes
                dsimp only
                rw [if_pos rfl]
                have sX := s1.trans sa
                refine ⟨_, rfl, _, rfl, a, rr, y, d2, b, kvs, ds.map (·.1), rfl, sX _ _ h1, hdf.mono sX, hk.mono sX, q0.mono sX, fun H4 s4 => ?_⟩
                have q3 := q2 rfl H4 s4
                rw [g0] at q3
                exact q3
              · rw [range_all kvs.length (fun _ => true), bools_map] at hD
                refine ⟨D, _, rfl, SqL.of hD, ?_⟩
                have e1 : ((List.range kvs.length).map fun i => ((ds.map (·.2))[i]?).elim false (rowD1 b (ds.map (·.1)))).all id = (ds.map (·.2)).all (rowD1 b (ds.map (·.1))) := by
                  have := all_range (ds.map (·.2)) (fun i => ((ds.map (·.2))[i]?).elim false (rowD1 b (ds.map (·.1)))) (rowD1 b (ds.map (·.1))) fun i a e => by rw [e]; rfl
                  rw [List.length_map, ← ek] at this
                  exact this
                rw [e1]
                exact k Ha (s1.trans sa)
end
end My

set_option linter.all false
namespace My
open PySem PySem.Spec PyProof.Rows L2
/-! ### books of anything: the law's look -/
abbrev sLName : Stmt := topS 17
abbrev sLWhole : Stmt := topS 18
abbrev sLRow : Stmt := topS 19
abbrev sLBook : Stmt := topS 20
def rNotInS : R2 := fun x y H Q => ∃ (c : Nat) (z : Str), x = .str ⟨#[c]⟩ ∧ y = .str z ∧ Q (.bl (!decide (c ∈ z.cps.toList))) H
def rListF (w : World) : List V → Hp → VK → Prop := fun xs H Q => ∃ d kvs, xs = [V.ref d] ∧ DF w H d kvs ∧ ∀ p, H p = none → Q (.ref p) (upd H p (.lst (kvs.map fun x => x.2.1)))
theorem call_listFR {X : Cx} (hc : X.calm = true) : CallR X (.type "list") (rListF X.w) := call_listF hc
theorem op_notIn_signR {X : Cx} : OpR X (compareOp .NotIn) rNotInS := op_notIn_sign
def small : Str := "abcdefghijklmnopqrstuvwxyz"
theorem small_let (c : Nat) : decide (c ∈ small.cps.toList) = letC c := by
  have : small.cps.toList = [97, 98, 99, 100, 101, 102, 103, 104, 105, 106, 107, 108, 109, 110, 111, 112, 113, 114, 115, 116, 117, 118, 119, 120, 121, 122] := rfl
  rw [this]
  unfold letC
  by_cases h : 97 ≤ c ∧ c ≤ 122
  · rw [decide_eq_true h.1, decide_eq_true h.2]
    refine decide_eq_true ?_
    simp only [List.mem_cons, List.not_mem_nil, or_false]
    omega
  · rw [decide_eq_false (by simp only [List.mem_cons, List.not_mem_nil, or_false]; omega)]
    by_cases h1 : 97 ≤ c
    · rw [decide_eq_true h1, decide_eq_false (fun z => h ⟨h1, z⟩)]; rfl
    · rw [decide_eq_false h1]; rfl
def wholeIn (lo hi : Int) : PyData → Bool
  | .int i => decide (lo ≤ i) && decide (i ≤ hi)
  | _ => false
def spLName (w : World) : Sp := fun vs H Q _ => ∃ (v : V) (d : PyData), vs = [v] ∧ Dx w H v d ∧ StrOk d ∧ ∀ H', Same H H' → Q (.bl (nameD d)) H'
def spLWhole (w : World) : Sp := fun vs H Q _ => ∃ (v : V) (d : PyData) (lo hi : Int), vs = [v, .int lo, .int hi] ∧ Dx w H v d ∧ Q (.bl (wholeIn lo hi d)) H
theorem eqv_nil (ds : List PyData) : PyData.eqv (.list ds) (.list []) = ds.isEmpty := by
  cases ds with
  | nil => simp [PyData.eqv, PyData.eqvAll]
  | cons a r => simp [PyData.eqv, PyData.eqvAll]
theorem dpa_strs {K : PySem.W.Frag} {H : Hp} : ∀ l : List Str, DpAll K H (l.map V.str) (l.map PyData.str)
  | [] => .nil
  | x :: l => .cons (.str x) (dpa_strs l)
theorem dpa_ints {K : PySem.W.Frag} {H : Hp} : ∀ l : List Int, DpAll K H (l.map V.int) (l.map PyData.int)
  | [] => .nil
  | x :: l => .cons (.int x) (dpa_ints l)
theorem shp_strs (l : List Str) (h : ∀ x ∈ l, PyData.strOk x = true) : SeqAt.shaped (.list (l.map PyData.str)) = true := by
  have h1 : PyData.canLayAll0 (l.map PyData.str) = true := by
    induction l with
    | nil => simp [PyData.canLayAll0]
    | cons x r ih => simp only [List.map_cons, PyData.canLayAll0, PyData.canLay0, ih fun y hy => h y (List.mem_cons_of_mem _ hy), h x List.mem_cons_self, Bool.and_true]
  have h2 : PyData.depthAll (l.map PyData.str) = 0 := by
    clear h1 h
    induction l with
    | nil => simp only [List.map_nil, PyData.depthAll]
    | cons x r ih => simp only [List.map_cons, PyData.depthAll, PyData.depth, ih]; rfl
  unfold SeqAt.shaped
  simp only [PyData.canLay0, PyData.depth, h1, h2]
  rfl
theorem shp_ints (l : List Int) : SeqAt.shaped (.list (l.map PyData.int)) = true := by
  have h1 : PyData.canLayAll0 (l.map PyData.int) = true := by
    induction l with
    | nil => simp [PyData.canLayAll0]
    | cons x r ih => simp only [List.map_cons, PyData.canLayAll0, PyData.canLay0, ih, Bool.and_true]
  have h2 : PyData.depthAll (l.map PyData.int) = 0 := by
    clear h1
    induction l with
    | nil => simp only [List.map_nil, PyData.depthAll]
    | cons x r ih => simp only [List.map_cons, PyData.depthAll, PyData.depth, ih]; rfl
  unfold SeqAt.shaped
  simp only [PyData.canLay0, PyData.depth, h1, h2]
  rfl
theorem inV_bl (bs : List Bool) : inV (.bl false) (bs.map V.bl) = !bs.all id := by
  unfold inV
  rw [List.any_map]
  induction bs with
  | nil => rfl
  | cons b r ih =>
    rw [List.any_cons, ih, List.all_cons]
    cases b <;> simp [eqV]
theorem flat_bl (bs : List Bool) : (bs.map V.bl).all flatV = true := List.all_eq_true.mpr fun x hx => by
  obtain ⟨b, _, rfl⟩ := List.mem_map.mp hx
  rfl
theorem inV_st (r : Str) (l : List Str) : inV (.str r) (l.map V.str) = decide (r ∈ l) := by
  unfold inV
  rw [List.any_map]
  induction l with
  | nil => rfl
  | cons x l ih =>
    rw [List.any_cons, ih]
    by_cases h : r = x
    · subst h
      simp [eqV]
    · have h' : ¬ x = r := fun e => h e.symm
      simp [eqV, h, h']
theorem flat_st (l : List Str) : (l.map V.str).all flatV = true := List.all_eq_true.mpr fun x hx => by
  obtain ⟨b, _, rfl⟩ := List.mem_map.mp hx
  rfl
section
variable {P : Program} {w : World} {K : PySem.W.Frag} {mg : Str → Option Value} {base : Heap}
theorem scLName : FnScope ["thing", "small", "sign"] ["thing"] (defScope sLName) := ⟨rfl, rfl, rfl, by decide +kernel, rfl, by decide +kernel, by decide +kernel⟩
theorem scLWhole : FnScope ["thing", "low", "high"] ["thing", "low", "high"] (defScope sLWhole) := ⟨rfl, rfl, rfl, by decide +kernel, rfl, by decide +kernel, by decide +kernel⟩
theorem scLRow : FnScope ["base", "names", "row", "pair", "k"] ["base", "names", "row"] (defScope sLRow) := ⟨rfl, rfl, rfl, by decide +kernel, rfl, by decide +kernel, by decide +kernel⟩
theorem scLBook : FnScope ["thing", "base", "rows", "name", "row"] ["thing"] (defScope sLBook) := ⟨rfl, rfl, rfl, by decide +kernel, rfl, by decide +kernel, by decide +kernel⟩
theorem ok_lwhole {f : Addr} {fd : FuncData} (F : Fun K "_law_is_whole" "_law_is_whole" sLWhole f fd) (T : TxP mg) : FnOk P w K mg base CX0 1 f fd ["thing", "low", "high"] (spLWhole w) := by
  refine F.ok scLWhole (fun vs H Q E h => ?_) (fun cdv A outer s H vs Q E hr h => ?_)
  · obtain ⟨v, d, lo, hi, rfl, _⟩ := h
    rfl
  · obtain ⟨v, d, lo, hi, rfl, dv, k⟩ := h
    refine ⟨_, (pss_one (ps_ret (pe_and (pe_callB call_isiX (by rfl) T.isi boot_isinstance (pa_cons (pv 0) (pa_cons (pe_bltn (v := .ty "int") (by rfl) T.int boot_int rfl) pa_nil))) (pe_and (pe_not (pe_callB call_isiX (by rfl) T.isi boot_isinstance (pa_cons (pv 0) (pa_cons (pe_bltn (v := .ty "bool") (by rfl) T.bool boot_bool rfl) pa_nil)))) (pe_one (pe_chain op_le op_le (pv 1) (pv 0) (pv 2))))))), ?_⟩
    refine ⟨_, rfl, _, _, _, _, rfl, dv, kit_int _, _, rfl, ?_⟩
    cases d with
    | int i =>
      have dv2 := dv
      cases dv
      refine iteT ⟨_, rfl, _, _, _, _, rfl, dv2, kit_bool _, _, rfl, _, rfl, iteT ⟨_, rfl, _, rfl, _, _, rfl, rfl, _, rfl, ?_⟩⟩
      by_cases c : lo ≤ i
      · refine ifT (decide_eq_true c) ⟨_, rfl, _, _, rfl, rfl, ?_⟩
        have : wholeIn lo hi (.int i) = decide (i ≤ hi) := by show (decide (lo ≤ i) && _) = _; rw [decide_eq_true c]; rfl
        show Q (.bl (decide (i ≤ hi))) H
        rw [← this]; exact k
      · refine ifF (decide_eq_false c) ?_
        have : wholeIn lo hi (.int i) = false := by show (decide (lo ≤ i) && _) = _; rw [decide_eq_false c]; rfl
        rw [← this]; exact k
    | bool c => exact iteT ⟨_, rfl, _, _, _, _, rfl, dv, kit_bool _, _, rfl, _, rfl, iteF k⟩
    | _ => exact iteF k
theorem ok_lname {f : Addr} {fd : FuncData} (F : Fun K "_law_is_name" "_law_is_name" sLName f fd) (T : TxP mg) : FnOk P w K mg base CX0 1 f fd ["thing"] (spLName w) := by
  refine F.ok scLName (fun vs H Q E h => ?_) (fun cdv A outer s H vs Q E hr h => ?_)
  · obtain ⟨v, d, rfl, _⟩ := h
    rfl
  · obtain ⟨v, d, rfl, dv, so, k⟩ := h
    refine ⟨_, (pss_cons (ps_set (i := 1) scLName.nd rfl (Or.inr rfl) pe_str)
      (pss_cons (ps_if (PW.pt (pw_or (pt_not (pt_val (pe_callB call_isiX (by rfl) T.isi boot_isinstance (pa_cons (pv 0) (pa_cons (pe_bltn (v := .ty "str") (by rfl) T.str boot_str rfl) pa_nil))))) (pw_or1 (pt_not (pt_chain op_lt op_lt pe_int (pe_callB call_len_str (by rfl) T.len PySem.boot_len (pa_cons (pv 0) pa_nil)) pe_int))))) (pss_one (ps_ret pe_bl)) pss_nil)
      (pss_one (ps_ret (pe_cmpR (op_eqD hr.units) (pe_lc (own := [("sign", 2)]) (g := gName 2) rfl scLName.nd (pi_str (pv 0)) (blkOk_by (N := ["thing", "small", "sign"]) (sc := defScope sLName) (by decide +kernel)) (fun _ _ _ _ _ => (pg_name (i := 2) scLName.nd rfl (Or.inl rfl))) (fun _ _ _ _ _ => (pts_one (pt_cmpR (show OpR _ _ rNotInS from op_notIn_signR) (pv 2) (pv 1) (by rfl)))) (fun _ _ _ _ _ => (pv 2))) (pe_lst pa_nil) (nomark _)))))), ?_⟩
    refine ⟨_, rfl, _, _, _, _, rfl, dv, kit_strX _, _, rfl, ?_⟩
    cases d with
    | str x =>
      cases dv
      have z := (so x rfl).1
      refine iteF ⟨_, rfl, _, rfl, z, _, _, rfl, rfl, _, rfl, ?_⟩
      by_cases c1 : 0 < x.length
      · refine ifT (decide_eq_true (by omega)) ⟨_, _, rfl, rfl, _, rfl, ?_⟩
        by_cases c8 : x.length ≤ 8
        · refine ifF (by rw [decide_eq_true (show (x.length : Int) < 9 by omega)]; rfl) ?_
          refine ⟨_, rfl, _, rfl, fun D nD => ?_⟩
          refine lc_gen (walk_str (z := x)) (fun i => !letC ((x.cps[i]?).getD 0)) (fun i => .str ⟨#[(x.cps[i]?).getD 0]⟩) nD (by have : x.cps.size = x.length := rfl; omega) (fun _ _ => trivial) (fun i y Ha Hb hi sa yy Q2 R q2 r2 => ?_) fun Ha sa hD => ?_
          · obtain ⟨rfl, c, hc, rfl⟩ := yy
            refine ⟨rfl, ?_⟩
            rw [hc] at q2 r2
            refine ⟨_, rfl, _, rfl, c, small, rfl, rfl, _, rfl, ?_⟩
            rw [small_let]
            cases hl : letC c with
            | true => exact r2 (by show (!letC c) = false; rw [hl]; rfl) Hb (Same.refl _)
            | false => exact ⟨_, rfl, q2 (by show (!letC c) = true; rw [hl]; rfl) Hb (Same.refl _)⟩
          · refine ⟨by show 0 ≤ sizeLine; exact Nat.zero_le _, fun L nL => ?_⟩
            have ne : D ≠ L := ne_of_none hD nL
            have eD : upd Ha L (.lst []) D = some (.lst ((((List.range x.cps.size).filter fun i => !letC ((x.cps[i]?).getD 0)).map fun i => (⟨#[(x.cps[i]?).getD 0]⟩ : Str)).map V.str)) := by
              rw [upd_ne ne, hD, List.map_map]; rfl
            refine ⟨_, _, .lst (SqL.of eD) (dpa_strs _), .lst (SqL.of upd_same) .nil, shp_strs _ (fun y hy => ?_), shp_strs [] nofun, ?_⟩
            · obtain ⟨i, hi, rfl⟩ := List.mem_map.mp hy
              have hi2 := List.mem_range.mp (List.mem_filter.mp hi).1
              have so2 := (so x rfl).2
              unfold PyData.strOk at so2 ⊢
              rw [Array.getElem?_eq_getElem hi2]
              have h1 := Array.all_eq_true.mp so2 i hi2
              simpa using h1
            · rw [eqv_nil]
              have e1 : ((((List.range x.cps.size).filter fun i => !letC ((x.cps[i]?).getD 0)).map fun i => (⟨#[(x.cps[i]?).getD 0]⟩ : Str)).map PyData.str).isEmpty = x.cps.toList.all letC := by
                have h2 := all_range x.cps.toList (fun i => letC ((x.cps[i]?).getD 0)) letC fun i a e => by
                  rw [Array.getElem?_toList] at e; rw [e]; rfl
                rw [Array.length_toList] at h2
                rw [← h2, Bool.eq_iff_iff, List.isEmpty_iff, List.map_eq_nil_iff, List.map_eq_nil_iff, List.filter_eq_nil_iff, List.all_eq_true]
                constructor
                · intro h b hb
                  obtain ⟨i, hi, rfl⟩ := List.mem_map.mp hb
                  have := h i hi
                  simpa using this
                · intro h i hi
                  have := h _ (List.mem_map.mpr ⟨i, hi, rfl⟩)
                  simpa using this
              rw [e1]
              have : nameD (.str x) = x.cps.toList.all letC := by show (decide (1 ≤ x.length) && decide (x.length ≤ 8) && _) = _; rw [decide_eq_true (show 1 ≤ x.length by omega), decide_eq_true c8]; rfl
              rw [← this]; exact k _ (sa.trans (Same.upd nL))
        · refine ifT (by rw [decide_eq_false (show ¬ (x.length : Int) < 9 by omega)]; rfl) ?_
          have : nameD (.str x) = false := by show (_ && decide (x.length ≤ 8) && _) = false; rw [decide_eq_false c8]; simp
          rw [← this]; exact k H (Same.refl H)
      · refine ifF (decide_eq_false (by omega)) ⟨_, rfl, iteT ?_⟩
        have : nameD (.str x) = false := by show (decide (1 ≤ x.length) && _ && _) = false; rw [decide_eq_false (show ¬ 1 ≤ x.length by omega)]; simp
        rw [← this]; exact k H (Same.refl H)
    | _ => exact iteT (k H (Same.refl H))
theorem pairD_strs {b : Int} {l : List Str} {g : Int} {x : Str} : pairD b (l.map PyData.str) (.tuple [.int g, .str x]) = (decide (0 ≤ g) && decide (g < b) && decide (x ∈ l)) := by
  show (_ && _ && (l.map PyData.str).any (strIs x)) = _
  congr 1
  induction l with
  | nil => rfl
  | cons y r ih =>
    rw [List.map_cons, List.any_cons, ih]
    show (decide (y = x) || _) = _
    by_cases c : x = y
    · simp [c]
    · have : ¬ y = x := fun z => c z.symm
      simp [c, this]
def spLRow (w : World) : Sp := fun vs H Q _ => ∃ (b : Int) (ln : Addr) (nms : List Str) (v : V) (d : PyData), vs = [.int b, .ref ln, v] ∧ H ln = some (.lst (nms.map V.str)) ∧ Dx w H v d ∧ ∀ H', Same H H' → Q (.bl (rowD1 b (nms.map .str) d)) H'
theorem rise_none (l : List (Int × Str)) (f : Nat → Bool) (hf : ∀ i a b, l[i]? = some a → l[i + 1]? = some b → f i = !ltP a b) : ((List.range (l.length - 1)).filter f).isEmpty = rise l := by
  have h := rise_all l (fun i => !f i) fun i a b e1 e2 => by rw [hf i a b e1 e2, Bool.not_not]
  rw [← h, Bool.eq_iff_iff, List.isEmpty_iff, List.filter_eq_nil_iff, List.all_eq_true]
  constructor
  · intro g b hb
    obtain ⟨i, hi, rfl⟩ := List.mem_map.mp hb
    have := g i hi
    simpa using this
  · intro g i hi
    have := g _ (List.mem_map.mpr ⟨i, hi, rfl⟩)
    simpa using this
theorem ok_lrow {f fLW : Addr} {fd fdLW : FuncData} (F : Fun K "_law_is_row" "_law_is_row" sLRow f fd) (T : TxP mg)
    (FLW : Fun K "_law_is_whole" "_law_is_whole" sLWhole fLW fdLW) (bLW : Binds K fdLW ["thing", "low", "high"] []) (gLW : mg "_law_is_whole" = some (.ref fLW)) : FnOk P w K mg base CX0 2 f fd ["base", "names", "row"] (spLRow w) := by
  have GLW : FnOk P w K mg base CX0 1 fLW fdLW ["thing", "low", "high"] (spLWhole w) := ok_lwhole FLW T
  refine F.ok scLRow (fun vs H Q E h => ?_) (fun cdv A outer s H vs Q E hr h => ?_)
  · obtain ⟨b, ln, nms, v, d, rfl, _⟩ := h
    rfl
  · obtain ⟨b, ln, nms, v, d, rfl, hln, dv, k⟩ := h
    have hr1 := hr
    refine ⟨_, (pss_cons (ps_if (PW.pt (pw_or (pt_not (pt_val (pe_callB call_isiX (by rfl) T.isi boot_isinstance (pa_cons (pv 2) (pa_cons (pe_bltn (v := .ty "tuple") (by rfl) T.tuple boot_tuple rfl) pa_nil))))) (pw_or1 (pt_cmpR op_gt (pe_callB call_len_seq (by rfl) T.len PySem.boot_len (pa_cons (pv 2) pa_nil)) pe_int (nomark _))))) (pss_one (ps_ret pe_bl)) pss_nil)
      (pss_cons (ps_for PassesOwn.never rfl (pi_tup (pv 2)) (pg_name (i := 3) scLRow.nd rfl (Or.inl rfl)) (pss_cons (ps_if (PW.pt (pw_or (pt_not (pt_val (pe_callB call_isiX (by rfl) T.isi boot_isinstance (pa_cons (pv 3) (pa_cons (pe_bltn (v := .ty "tuple") (by rfl) T.tuple boot_tuple rfl) pa_nil))))) (pw_or (pt_cmpR op_ne (pe_callB call_len_seq (by rfl) T.len PySem.boot_len (pa_cons (pv 3) pa_nil)) pe_int (nomark _)) (pw_or1 (pt_not (pt_val (pe_call GLW hr1 (by rfl) gLW FLW.kp bLW .nil pass0 (pa_cons (pe_ix ix_tup (pv 3) pe_int (fun _ _ => rfl)) (pa_cons pe_int (pa_cons (pe_op op_sub (pv 0) pe_int) pa_nil)))))))))) (pss_one (ps_ret pe_bl)) pss_nil)
      (pss_one (ps_if (PW.pt (pw_or (pt_not (pt_val (pe_callB call_isiX (by rfl) T.isi boot_isinstance (pa_cons (pe_ix ix_tup (pv 3) pe_int (fun _ _ => rfl)) (pa_cons (pe_bltn (v := .ty "str") (by rfl) T.str boot_str rfl) pa_nil))))) (pw_or1 (pt_cmpR op_notIn_seq (pe_ix ix_tup (pv 3) pe_int (fun _ _ => rfl)) (pv 1) (by rfl))))) (pss_one (ps_ret pe_bl)) pss_nil))))
      (pss_one (ps_ret (pe_cmpR (op_eqD hr.units) (pe_lc (own := [("k", 4)]) (g := gName 4) rfl scLRow.nd (pi_range2 (by rfl) T.range (pa_cons pe_int (pa_cons (pe_callB call_len_seq (by rfl) T.len PySem.boot_len (pa_cons (pv 2) pa_nil)) pa_nil))) (blkOk_by (N := ["base", "names", "row", "pair", "k"]) (sc := defScope sLRow) (by decide +kernel)) (fun _ _ _ _ _ => (pg_name (i := 4) scLRow.nd rfl (Or.inl rfl))) (fun _ _ _ _ _ => (pts_one (pt_cmpR (show OpR _ _ (rCmpP fun p q => !ltP p q) from op_geP hr.units0) (pe_ix (show IxR _ (rIxT K) from ix_tup) (pv 2) (pe_op op_sub (pv 4) pe_int) (fun _ _ => rfl)) (pe_ix (show IxR _ (rIxT K) from ix_tup) (pv 2) (pv 4) (fun _ _ => rfl)) (nomark _)))) (fun _ _ _ _ _ => (pv 4))) (pe_lst pa_nil) (nomark _)))))), ?_⟩
    refine ⟨_, rfl, _, _, _, _, rfl, dv, kit_tuple _, _, rfl, ?_⟩
    cases dv with
    | tup h1 h2 =>
      rename_i a xs ps
      have ln' := h2.len
      refine iteF ⟨_, rfl, a, _, rfl, .inr (SqT.of h1), _, _, rfl, rfl, _, rfl, ?_⟩
      by_cases l12 : ps.length ≤ 12
      · refine ifF (decide_eq_false (by omega)) ?_
        refine ⟨_, rfl, a, rfl, ⟨_, SqT.of h1⟩, ?_⟩
        refine for_it (walk_tup (K := K) (a := a) (xs := xs)) (fun i σ Hi => Same H Hi ∧ (∃ x3, σ = [some (.int b), some (.ref ln), some (.ref a), x3, none]) ∧ ∀ d ∈ ps.take i, pairD b (nms.map .str) d = true) ⟨Same.refl H, ⟨_, rfl⟩, fun d hd => by simp at hd⟩ (fun i σ Hi _ z => SqT.of (z.1 _ _ h1)) ?_ ?_
        · rintro i y σ Ha Hb hi ⟨sa, ⟨x3, rfl⟩, hok⟩ ⟨rfl, ey⟩
          obtain ⟨d0, g0, q0'⟩ := h2.get ey
          have q0 := q0'.mono sa
          have bad : pairD b (nms.map .str) d0 = false → Q (.bl false) Hb := fun hb => by
            have : rowD1 b (nms.map .str) (.tuple ps) = false := by
              show (_ && ps.all (pairD b (nms.map .str)) && _) = false
              have h3 : ps.all (pairD b (nms.map .str)) = false := by
                rw [List.all_eq_false]
                exact ⟨d0, List.mem_of_getElem? g0, by rw [hb]; simp⟩
              rw [h3]; simp
            rw [← this]; exact k Hb sa
          have good : pairD b (nms.map .str) d0 = true → ∀ d ∈ ps.take (i + 1), pairD b (nms.map .str) d = true := fun hg d hd => by
            rw [List.take_add_one, g0] at hd
            rcases List.mem_append.mp hd with h | h
            · exact hok d h
            · have : d = d0 := by simpa using h
              rw [this]; exact hg
          refine ⟨_, rfl, _, _, _, _, rfl, q0, kit_tuple _, _, rfl, ?_⟩
          cases q0 with
          | tup g1 g2 =>
            rename_i c ys ds
            have ln2 := g2.len
            refine iteF ⟨_, rfl, c, _, rfl, .inr (SqT.of g1), rfl, _, rfl, ?_⟩
            by_cases l2 : ys.length = 2
            · refine ifF (by simp [l2]) ?_
              obtain ⟨d1, d2, rfl⟩ : ∃ d1 d2, ds = [d1, d2] := by
                match ds, (ln2.symm.trans l2 : ds.length = 2) with
                | [d1, d2], _ => exact ⟨d1, d2, rfl⟩
              cases g2 with
              | cons q1 r1 =>
                cases r1 with
                | cons q2 r2 =>
                  cases r2
                  rename_i v1 v2
                  refine ⟨_, rfl, c, _, 0, v1, rfl, rfl, SqT.of g1, atI_nat (j := 0) rfl, _, rfl, _, _, rfl, rfl, v1, d1, 0, b - 1, rfl, q1, _, rfl, ?_⟩
                  cases hw : wholeIn 0 (b - 1) d1 with
                  | false =>
                    refine iteT (bad ?_)
                    cases d1 with
                    | int g =>
                      cases d2 with
                      | str x =>
                        rw [pairD_strs]
                        have : (decide (0 ≤ g) && decide (g ≤ b - 1)) = false := hw
                        have e : decide (g ≤ b - 1) = decide (g < b) := by rw [decide_eq_decide]; omega
                        rw [e] at this
                        rw [this]; rfl
                      | _ => rfl
                    | _ => rfl
                  | true =>
                    refine iteF ?_
                    obtain ⟨g, rfl⟩ : ∃ g, d1 = .int g := by cases d1 <;> first | exact ⟨_, rfl⟩ | exact Bool.noConfusion hw
                    have hw2 : (decide (0 ≤ g) && decide (g < b)) = true := by
                      have : (decide (0 ≤ g) && decide (g ≤ b - 1)) = true := hw
                      have e : decide (g ≤ b - 1) = decide (g < b) := by rw [decide_eq_decide]; omega
                      rw [e] at this; exact this
                    refine ⟨_, rfl, c, _, 1, v2, rfl, rfl, SqT.of g1, atI_nat (j := 1) rfl, _, _, _, _, rfl, q2, kit_strX _, _, rfl, ?_⟩
                    cases d2 with
                    | str x =>
                      cases q2
                      refine iteF ⟨_, rfl, c, _, 1, _, rfl, rfl, SqT.of g1, atI_nat (j := 1) rfl, _, rfl, ln, _, rfl, .inl (SqL.of (sa _ _ hln)), rfl, flat_st nms, _, rfl, ?_⟩
                      rw [if_pos rfl, inV_st]
                      by_cases hx : x ∈ nms
                      · refine ifF (by rw [decide_eq_true hx]; rfl) ?_
                        refine ⟨sa, ⟨_, rfl⟩, good ?_⟩
                        rw [pairD_strs, hw2, decide_eq_true hx]; rfl
                      · refine ifT (by rw [decide_eq_false hx]; rfl) (bad ?_)
                        rw [pairD_strs, decide_eq_false hx]; simp
                    | _ => exact iteT (bad rfl)
            · refine ifT (by simp; omega) (bad ?_)
              match ds, ln2 with
              | [], _ => simp only [pairD]
              | [_], _ => simp only [pairD]
              | [_, _], e => exact absurd e l2
              | _ :: _ :: _ :: _, _ => simp only [pairD]
          | _ => exact iteT (bad rfl)
        · rintro σ Ha ⟨sa, ⟨x3, rfl⟩, hok⟩
          rw [ln', List.take_length] at hok
          refine ⟨_, rfl, a, _, rfl, .inr (SqT.of (sa _ _ h1)), 1, (xs.length : Int), rfl, ⟨by omega, by omega, by omega, by omega⟩, fun D nD => ?_⟩
          refine lc_gen (walk_range (lo := 1) (n := ((xs.length : Int) - 1).toNat)) (fun i => !ltP ((ps[i]?).elim (0, "") asPair) ((ps[i + 1]?).elim (0, "") asPair)) (fun i => .int (1 + i)) nD (by rw [sizeLine_eq]; omega) (fun _ _ => trivial) (fun i y Hb Hc hi sb yy Q2 R q2 r2 => ?_) fun Hb sb hD => ?_
          · obtain ⟨rfl, rfl⟩ := yy
            have hi2 : i + 1 < ps.length := by omega
            obtain ⟨v0, ev0⟩ : ∃ v0, xs[i]? = some v0 := ⟨xs[i], List.getElem?_eq_getElem (by omega)⟩
            obtain ⟨v1, ev1⟩ : ∃ v1, xs[i + 1]? = some v1 := ⟨xs[i + 1], List.getElem?_eq_getElem (by omega)⟩
            obtain ⟨d0, g0, q0⟩ := h2.get ev0
            obtain ⟨d1, g1, q1⟩ := h2.get ev1
            rw [g0, g1] at q2 r2
            have sX := sa.trans sb
            have w0 := q0.mono sX
            have w1 := q1.mono sX
            rw [pairD_shape (hok d0 (List.mem_of_getElem? g0))] at w0
            rw [pairD_shape (hok d1 (List.mem_of_getElem? g1))] at w1
            cases w0 with
            | tup z1 y1 => cases y1 with | cons a1 b1 => cases b1 with | cons a2 b2 =>
            cases b2; cases a1; cases a2
            cases w1 with
            | tup z2 y2 => cases y2 with | cons a3 b3 => cases b3 with | cons a4 b4 =>
            cases b4; cases a3; cases a4
            refine ⟨rfl, ?_⟩
            refine ⟨_, rfl, _, rfl, _, _, rfl, rfl, a, xs, 1 + (i : Int) - 1, _, rfl, rfl, SqT.of (sX _ _ h1), by rw [show (1 : Int) + (i : Int) - 1 = (i : Int) by omega]; exact atI_nat ev0, ?_⟩
            refine ⟨_, rfl, _, rfl, a, xs, 1 + (i : Int), _, rfl, rfl, SqT.of (sX _ _ h1), by rw [show (1 : Int) + (i : Int) = ((i + 1 : Nat) : Int) by omega]; exact atI_nat ev1, ?_⟩
            refine ⟨_, _, _, _, rfl, rfl, z1, z2, _, rfl, ?_⟩
            cases hl : ltP (asPair d0) (asPair d1) with
            | true => exact ifF (show (!ltP (asPair d0) (asPair d1)) = false by rw [hl]; rfl) (r2 (show (!ltP (asPair d0) (asPair d1)) = false by rw [hl]; rfl) _ (Same.refl _))
            | false => exact ifT (show (!ltP (asPair d0) (asPair d1)) = true by rw [hl]; rfl) ⟨_, rfl, q2 (show (!ltP (asPair d0) (asPair d1)) = true by rw [hl]; rfl) _ (Same.refl _)⟩
          · refine ⟨by show 0 ≤ sizeLine; exact Nat.zero_le _, fun L nL => ?_⟩
            have ne : D ≠ L := ne_of_none hD nL
            have eD : upd Hb L (.lst []) D = some (.lst ((((List.range ((xs.length : Int) - 1).toNat).filter fun i => !ltP ((ps[i]?).elim (0, "") asPair) ((ps[i + 1]?).elim (0, "") asPair)).map fun (i : Nat) => ((1 : Int) + (i : Int))).map V.int)) := by
              rw [upd_ne ne, hD, List.map_map]; rfl
            refine ⟨_, _, .lst (SqL.of eD) (dpa_ints _), .lst (SqL.of upd_same) .nil, shp_ints _, shp_ints [], ?_⟩
            rw [eqv_nil]
            have e1 : ((((List.range ((xs.length : Int) - 1).toNat).filter fun i => !ltP ((ps[i]?).elim (0, "") asPair) ((ps[i + 1]?).elim (0, "") asPair)).map fun (i : Nat) => ((1 : Int) + (i : Int))).map PyData.int).isEmpty = rise (ps.map asPair) := by
              have e2 : ((xs.length : Int) - 1).toNat = (ps.map asPair).length - 1 := by rw [List.length_map]; omega
              rw [e2, ← rise_none (ps.map asPair) _ fun i p q g1 g2 => ?_]
              · rw [Bool.eq_iff_iff, List.isEmpty_iff, List.isEmpty_iff, List.map_eq_nil_iff, List.map_eq_nil_iff]
              · rw [List.getElem?_map] at g1 g2
                cases h1 : ps[i]? with
                | none => rw [h1] at g1; cases g1
                | some d1 =>
                  cases h2 : ps[i + 1]? with
                  | none => rw [h2] at g2; cases g2
                  | some d2 =>
                    rw [h1] at g1; rw [h2] at g2
                    cases g1; cases g2
                    rfl
            rw [e1]
            have : rowD1 b (nms.map .str) (.tuple ps) = rise (ps.map asPair) := by
              show (decide (ps.length ≤ 12) && ps.all (pairD b (nms.map .str)) && _) = _
              rw [decide_eq_true l12, List.all_eq_true.mpr hok]; rfl
            rw [← this]; exact k _ ((sa.trans sb).trans (Same.upd nL))
      · refine ifT (decide_eq_true (by omega)) ?_
        have : rowD1 b (nms.map .str) (.tuple ps) = false := by show (decide (ps.length ≤ 12) && _ && _) = false; rw [decide_eq_false l12]; simp
        rw [← this]; exact k H (Same.refl H)
    | _ => exact iteT (k H (Same.refl H))
def spLBook (w : World) : Sp := fun vs H Q _ => ∃ (v : V) (d : PyData), vs = [v] ∧ Dx w H v d ∧ FineB d ∧ ∀ H', Same H H' → Q (.bl (isBookD d)) H'
theorem strs_of {H : Hp} : ∀ {vs : List V} {ks : List PyData}, DxAll w H vs ks → (∀ k ∈ ks, nameD k = true) → ∃ nms : List Str, vs = nms.map V.str ∧ ks = nms.map PyData.str
  | _, _, .nil, _ => ⟨[], rfl, rfl⟩
  | v :: vs, k :: ks, .cons h t, hk => by
    obtain ⟨nms, e1, e2⟩ := strs_of t fun x hx => hk x (List.mem_cons_of_mem _ hx)
    have h1 := hk k List.mem_cons_self
    cases k with
    | str x => cases h; exact ⟨x :: nms, by rw [e1]; rfl, by rw [e2]; rfl⟩
    | _ => cases h1
theorem ok_lbook {f fLW fLN fLR : Addr} {fd fdLW fdLN fdLR : FuncData} (F : Fun K "_law_is_book" "_law_is_book" sLBook f fd) (T : TxP mg)
    (FLW : Fun K "_law_is_whole" "_law_is_whole" sLWhole fLW fdLW) (bLW : Binds K fdLW ["thing", "low", "high"] []) (gLW : mg "_law_is_whole" = some (.ref fLW))
    (FLN : Fun K "_law_is_name" "_law_is_name" sLName fLN fdLN) (bLN : Binds K fdLN ["thing"] []) (gLN : mg "_law_is_name" = some (.ref fLN))
    (FLR : Fun K "_law_is_row" "_law_is_row" sLRow fLR fdLR) (bLR : Binds K fdLR ["base", "names", "row"] []) (gLR : mg "_law_is_row" = some (.ref fLR)) : FnOk P w K mg base CX0 3 f fd ["thing"] (spLBook w) := by
  have GLW : FnOk P w K mg base CX0 1 fLW fdLW ["thing", "low", "high"] (spLWhole w) := ok_lwhole FLW T
  have GLN : FnOk P w K mg base CX0 1 fLN fdLN ["thing"] (spLName w) := ok_lname FLN T
  have GLR : FnOk P w K mg base CX0 2 fLR fdLR ["base", "names", "row"] (spLRow w) := ok_lrow FLR T FLW bLW gLW
  refine F.ok scLBook (fun vs H Q E h => ?_) (fun cdv A outer s H vs Q E hr h => ?_)
  · obtain ⟨v, d, rfl, _⟩ := h
    rfl
  · obtain ⟨v, d, rfl, dv, fb, k⟩ := h
    have hr2 := hr
    have hr1 := hr.mono (show 1 ≤ 2 by decide)
    refine ⟨_, (pss_cons (ps_if (PW.pt (pw_or (pt_not (pt_val (pe_callB call_isiX (by rfl) T.isi boot_isinstance (pa_cons (pv 0) (pa_cons (pe_bltn (v := .ty "tuple") (by rfl) T.tuple boot_tuple rfl) pa_nil))))) (pw_or (pt_cmpR op_ne (pe_callB call_len_seq (by rfl) T.len PySem.boot_len (pa_cons (pv 0) pa_nil)) pe_int (nomark _)) (pw_or1 (pt_not (pt_val (pe_call GLW hr1 (by rfl) gLW FLW.kp bLW .nil pass0 (pa_cons (pe_ix ix_tup (pv 0) pe_int (fun _ _ => rfl)) (pa_cons pe_int (pa_cons pe_int pa_nil)))))))))) (pss_one (ps_ret pe_bl)) pss_nil)
      (pss_cons (ps_asg (pv 0) (pg_tup (by rfl) (pgs_cons (pg_name (i := 1) scLBook.nd rfl (Or.inr rfl)) (pgs_cons (pg_name (i := 2) scLBook.nd rfl (Or.inr rfl)) pgs_nil))))
      (pss_cons (ps_if (PW.pt (pw_or (pt_not (pt_val (pe_callB call_isiX (by rfl) T.isi boot_isinstance (pa_cons (pv 2) (pa_cons (pe_bltn (v := .ty "dict") (by rfl) T.dict boot_dict rfl) pa_nil))))) (pw_or (pt_not (pt_chain op_lt op_lt pe_int (pe_callB call_lenF (by rfl) T.len PySem.boot_len (pa_cons (pv 2) pa_nil)) pe_int)) (pw_or1 (pt_cmpR op_in_seq pe_bl (pe_lc (own := [("name", 3)]) (g := gName 3) (tt := tYes) rfl scLBook.nd (pi_keysF (pv 2)) (blkOk_by (N := ["thing", "base", "rows", "name", "row"]) (sc := defScope sLBook) (by decide +kernel)) (fun _ _ _ _ _ => (pg_name (i := 3) scLBook.nd rfl (Or.inl rfl))) (fun _ _ _ _ _ => pts_nil) (fun _ _ _ _ _ => (pe_call GLN hr1 (by rfl) gLN FLN.kp bLN .nil pass0 (pa_cons (pv 3) pa_nil)))) (by rfl)))))) (pss_one (ps_ret pe_bl)) pss_nil)
      (pss_one (ps_ret (pe_cmpR op_notIn_seq pe_bl (pe_lc (own := [("row", 4)]) (g := gName 4) (tt := tYes) rfl scLBook.nd (pi_valsF (pv 2)) (blkOk_by (N := ["thing", "base", "rows", "name", "row"]) (sc := defScope sLBook) (by decide +kernel)) (fun _ _ _ _ _ => (pg_name (i := 4) scLBook.nd rfl (Or.inl rfl))) (fun _ _ _ _ _ => pts_nil) (fun _ _ _ _ _ => (pe_call GLR hr2 (by rfl) gLR FLR.kp bLR .nil pass0 (pa_cons (pv 1) (pa_cons (pe_callTy (show CallR _ _ (rListF w) from call_listFR rfl) (by rfl) T.list boot_list (pa_cons (pv 2) pa_nil)) (pa_cons (pv 4) pa_nil)))))) (by rfl))))))), ?_⟩
    have bad : namedD d = false → Q (.bl false) H := fun hn => by
      have : isBookD d = false := by unfold isBookD; rw [hn]; rfl
      rw [← this]; exact k H (Same.refl H)
    refine ⟨_, rfl, _, _, _, _, rfl, dv, kit_tuple _, _, rfl, ?_⟩
    cases dv with
    | tup h1 h2 =>
      rename_i a xs ds
      refine iteF ⟨_, rfl, a, _, rfl, .inr (SqT.of h1), rfl, _, rfl, ?_⟩
      have ln := h2.len
      by_cases l2 : xs.length = 2
      · refine ifF (by simp [l2]) ?_
        obtain ⟨d0, d1, rfl⟩ : ∃ d0 d1, ds = [d0, d1] := by
          match ds, (ln.symm.trans l2 : ds.length = 2) with
          | [d0, d1], _ => exact ⟨d0, d1, rfl⟩
        cases h2 with
        | cons q0 r0 =>
          cases r0 with
          | cons q1 r1 =>
            cases r1
            rename_i v0 v1
            refine ⟨_, rfl, a, _, 0, v0, rfl, rfl, SqT.of h1, atI_nat (j := 0) rfl, v0, d0, 2, 10, rfl, q0, _, rfl, ?_⟩
            have eb : wholeIn 2 10 d0 = baseD d0 := by cases d0 <;> rfl
            rw [eb]
            cases hb : baseD d0 with
            | false => exact iteT (bad (by rw [named_two, hb]; rfl))
            | true =>
              refine iteF ⟨_, rfl, a, _, rfl, SqT.of h1, rfl, _, _, rfl, _, _, rfl, rfl, ?_⟩
              obtain ⟨b, rfl⟩ : ∃ b, d0 = .int b := by cases d0 <;> first | exact ⟨_, rfl⟩ | exact Bool.noConfusion hb
              cases q0
              refine ⟨_, rfl, _, _, _, _, rfl, q1, kit_dictX _, _, rfl, ?_⟩
              cases q1 with
              | dct hdf hk hv =>
                rename_i rr kvs es
                have e0 := hk.len
                rw [List.length_map, List.length_map] at e0
                have nm : namedD (.tuple [.int b, .dict es]) = (decide (1 ≤ es.length) && decide (es.length ≤ 6) && (es.map (·.1)).all nameD) := by rw [named_two, hb]; rfl
                refine iteF ⟨_, rfl, rr, kvs, rfl, hdf, _, _, rfl, rfl, _, rfl, ?_⟩
                by_cases c1 : 0 < kvs.length
                · refine ifT (decide_eq_true (by omega)) ⟨_, _, rfl, rfl, _, rfl, ?_⟩
                  by_cases c6 : kvs.length ≤ 6
                  · refine ifF (by rw [decide_eq_true (show (kvs.length : Int) < 7 by omega)]; rfl) ?_
                    refine ⟨_, rfl, rr, kvs, rfl, hdf, fun od u hod D nD => ?_⟩
                    refine lc_gen (walk_keysF (w := w) (d := rr) (od := od) (kvs := kvs)) (fun _ => true) (fun i => .bl (((es.map (·.1))[i]?).elim false nameD)) nD (by rw [sizeLine_eq]; omega) (fun Ha sa => ⟨⟨u, sa _ _ hod⟩, hdf.mono sa⟩) (fun i y Ha Hb hi sa yy Q2 R q2 r2 => ?_) fun Ha sa hD => ?_
                    · obtain ⟨rfl, kk, vv, ey⟩ := yy
                      obtain ⟨d2, g0, q0⟩ := hk.get (i := i) (v := y) (by rw [List.getElem?_map, ey]; rfl)
                      refine ⟨rfl, ?_⟩
                      unfold tYes
                      dsimp only
                      rw [if_pos rfl]
                      refine ⟨_, rfl, y, d2, rfl, q0.mono sa, fb (.int b) es rfl d2 (List.mem_of_getElem? g0), fun H4 s4 => ?_⟩
                      have q3 := q2 rfl H4 s4
                      rw [g0] at q3
                      exact q3
                    · rw [range_all kvs.length (fun _ => true), bools_map] at hD
                      have e1 : ((List.range kvs.length).map fun i => ((es.map (·.1))[i]?).elim false nameD).all id = (es.map (·.1)).all nameD := by
                        have := all_range (es.map (·.1)) (fun i => ((es.map (·.1))[i]?).elim false nameD) nameD fun i a e => by rw [e]; rfl
                        rw [List.length_map, ← e0] at this
                        exact this
                      refine ⟨D, _, rfl, .inl (SqL.of hD), rfl, flat_bl _, _, rfl, ?_⟩
                      rw [if_neg Bool.false_ne_true, inV_bl, e1]
                      cases hall : (es.map (·.1)).all nameD with
                      | false =>
                        refine iteT ?_
                        have : isBookD (.tuple [.int b, .dict es]) = false := by unfold isBookD; rw [nm, hall]; simp
                        rw [← this]; exact k Ha sa
                      | true =>
                        refine iteF ?_
                        obtain ⟨nms, en1, en2⟩ := strs_of hk (List.all_eq_true.mp hall)
                        have hn : namedD (.tuple [.int b, .dict es]) = true := by rw [nm, hall, ← e0, decide_eq_true c6, decide_eq_true (show 1 ≤ kvs.length by omega)]; rfl
                        have ebk : isBookD (.tuple [.int b, .dict es]) = (es.map (·.2)).all (rowD1 b (es.map (·.1))) := by unfold isBookD; rw [hn]; rfl
                        refine ⟨_, rfl, rr, kvs, rfl, hdf.mono sa, fun od2 u2 hod2 D2 nD2 => ?_⟩
                        refine lc_gen (walk_valsF (w := w) (d := rr) (od := od2) (kvs := kvs)) (fun _ => true) (fun i => .bl (((es.map (·.2))[i]?).elim false (rowD1 b (es.map (·.1))))) nD2 (by rw [sizeLine_eq]; omega) (fun Hb sb => ⟨⟨u2, sb _ _ hod2⟩, hdf.mono (sa.trans sb)⟩) (fun i y Hb Hc hi sb yy Q2 R q2 r2 => ?_) fun Hb sb hD2 => ?_
                        · obtain ⟨rfl, kk, vv, ey⟩ := yy
                          obtain ⟨d2, g0, q0⟩ := hv.get (i := i) (v := y) (by rw [List.getElem?_map, ey]; rfl)
                          refine ⟨rfl, ?_⟩
                          unfold tYes
                          dsimp only
                          rw [if_pos rfl]
                          have sX := sa.trans sb
                          refine ⟨_, rfl, _, rfl, rr, kvs, rfl, hdf.mono sX, fun L nL => ?_⟩
                          have sL := Same.upd (o := .lst (kvs.map fun x : Kvv => x.2.1)) nL
                          refine ⟨_, rfl, b, L, nms, y, d2, rfl, by rw [upd_same, en1], q0.mono (sX.trans sL), fun H4 s4 => ?_⟩
                          have q3 := q2 rfl H4 (sL.trans s4)
                          rw [g0] at q3
                          rw [← en2]; exact q3
                        · rw [range_all kvs.length (fun _ => true), bools_map] at hD2
                          have e2 : ((List.range kvs.length).map fun i => ((es.map (·.2))[i]?).elim false (rowD1 b (es.map (·.1)))).all id = (es.map (·.2)).all (rowD1 b (es.map (·.1))) := by
                            have := all_range (es.map (·.2)) (fun i => ((es.map (·.2))[i]?).elim false (rowD1 b (es.map (·.1)))) (rowD1 b (es.map (·.1))) fun i a e => by rw [e]; rfl
                            rw [List.length_map, ← e0] at this
                            exact this
                          refine ⟨D2, _, rfl, .inl (SqL.of hD2), rfl, flat_bl _, ?_⟩
                          rw [if_pos rfl, inV_bl, e2, Bool.not_not, ← ebk]
                          exact k Hb (sa.trans sb)
                  · exact ifT (by rw [decide_eq_false (show ¬ (kvs.length : Int) < 7 by omega)]; rfl) (bad (by rw [nm, ← e0, decide_eq_false c6]; simp))
                · exact ifF (decide_eq_false (by omega)) ⟨_, rfl, iteT (bad (by rw [nm, ← e0, decide_eq_false (show ¬ 1 ≤ kvs.length by omega)]; simp))⟩
              | _ => exact iteT (bad (by rw [named_two]; simp))
      · refine ifT (by simp; omega) (bad ?_)
        match ds, ln with
        | [], _ => simp only [namedD]
        | [_], _ => simp only [namedD]
        | [_, _], e => exact absurd e l2
        | _ :: _ :: _ :: _, _ => simp only [namedD]
    | _ => exact iteT (bad rfl)
end
end My

set_option linter.all false
namespace My
open PySem PySem.Spec PyProof.Rows L2
/-! ### the heap without the pen -/
def off (H : Hp) (p : Addr) : Hp := fun a => if a = p then none else H a
theorem off_at {H : Hp} {p : Addr} : off H p p = none := if_pos rfl
theorem off_ne {H : Hp} {p a : Addr} (h : a ≠ p) : off H p a = H a := if_neg h
theorem off_same {H : Hp} {p : Addr} : Same (off H p) H := fun a o h => by
  by_cases c : a = p
  · rw [c, off_at] at h; cases h
  · rw [off_ne c] at h; exact h
theorem off_but {p : Addr} {H H' : Hp} (b : But p H H') : Same (off H p) (off H' p) := fun a o h => by
  by_cases c : a = p
  · rw [c, off_at] at h; cases h
  · rw [off_ne c] at h ⊢; exact b a o c h
theorem off_of {p : Addr} {H H' : Hp} (e : Same H H') : Same (off H p) (off H' p) := off_but (But.of e)
theorem nw_off {p : Addr} {G' H H' : Hp} (m : Nw (off H p) H G' H') (hp : H p ≠ none) : Same G' (off H' p) := fun c o h => by
  have gp : G' p = none := (m.old p hp).trans off_at
  have cp : c ≠ p := fun e => by rw [e, gp] at h; cases h
  rw [off_ne cp]; exact m.gh _ _ h
theorem tup_off {p pc t : Addr} {n : Nat} {H : Hp} {xs : List V} (P : PenC H p pc n) (h : H t = some (.tup xs)) : off H p t = some (.tup xs) := by
  by_cases z : t = p
  · subst z
    obtain ⟨cells, x, y, g1, _⟩ := P.ex
    rw [g1] at h; cases h
  · rw [off_ne z]; exact h
/-! ### data made by an expression, dicts too -/
def tDx (w : World) (d : PyData) : TE := fun _ H Q => ∃ G, Same G H ∧ ∀ v G' H', Nw G H G' H' → Dx w G' v d → Q v H'
def tDxs (w : World) (ds : List PyData) : TA := fun _ H Q => ∃ G, Same G H ∧ ∀ vs G' H', Nw G H G' H' → DxAll w G' vs ds → Q vs H'
theorem df_leaf {w : World} {H G : Hp} {d : Addr} {kvs : List Kvv} {od : Obj} {u : HO} (h : DF w H d kvs) (e : H d = some (.frz od u)) (g : G d = some (.frz od u)) (k : ∀ x ∈ kvs, KeyV G x.1 x.2.1) : DF w G d kvs := by
  obtain ⟨od2, u2, es, ep, h1, h2, h3, h4, h5, h6⟩ := h
  rw [e] at h1
  cases h1
  refine ⟨od, u, es, ep, g, h2, h3, h4, ⟨?_, h5.nod, h5.lt⟩, h6⟩
  have p := h5.prd
  clear h5 h2 h3 h4 e g
  generalize es.toList = l at p
  induction p with
  | nil => exact .nil
  | cons h t ih => exact .cons ⟨k _ List.mem_cons_self, h.2⟩ (ih fun x hx => k x (List.mem_cons_of_mem _ hx))
section
variable {X : Cx} {pos : Pos}
theorem dx_int {i : Int} {j : Nat} : PE X (.Constant (.int i) j pos) (tDx X.w (.int i)) := PE.imp pe_int fun _ _ _ ⟨_, e, k⟩ => k _ _ _ (Nw.refl e) (.int i)
theorem dx_str {x : Str} {j : Nat} : PE X (.Constant (.str x) j pos) (tDx X.w (.str x)) := PE.imp pe_str fun _ _ _ ⟨_, e, k⟩ => k _ _ _ (Nw.refl e) (.str x)
theorem dx_bl {b : Bool} {j : Nat} : PE X (.Constant (.bool b) j pos) (tDx X.w (.bool b)) := PE.imp pe_bl fun _ _ _ ⟨_, e, k⟩ => k _ _ _ (Nw.refl e) (.bl b)
theorem dx_non {j : Nat} : PE X (.Constant .none j pos) (tDx X.w .none) := PE.imp pe_non fun _ _ _ ⟨_, e, k⟩ => k _ _ _ (Nw.refl e) .non
theorem dx_neg {i : Int} {j : Nat} {p : Pos} : PE X (.UnaryOp .USub (.Constant (.int i) j p) pos) (tDx X.w (.int (-i))) := PE.imp (pe_un un_neg pe_int) fun _ _ _ ⟨_, e, k⟩ => ⟨i, rfl, k _ _ _ (Nw.refl e) (.int _)⟩
theorem dx_pow {i j : Int} {a b : Nat} {p q : Pos} (h : CPow i j) : PE X (.BinOp (.Constant (.int i) a p) .Pow (.Constant (.int j) b q) pos) (tDx X.w (.int (i ^ j.toNat))) :=
  PE.imp (pe_op op_pow pe_int pe_int) fun _ _ _ ⟨_, e, k⟩ => ⟨i, j, rfl, rfl, h, k _ _ _ (Nw.refl e) (.int _)⟩
theorem dxs_nil : PA X [] (tDxs X.w []) := PA.imp pa_nil fun _ _ _ ⟨_, e, k⟩ => k _ _ _ (Nw.refl e) .nil
theorem dxs_cons {e : Expr} {es : List Expr} {d : PyData} {ds : List PyData} (h1 : PE X e (tDx X.w d)) (h2 : PA X es (tDxs X.w ds)) (hs : starEach (e :: es) X.env = (false, eval e X.env) :: starEach es X.env := by rfl) : PA X (e :: es) (tDxs X.w (d :: ds)) :=
  PA.imp (pa_cons h1 h2 hs) fun _ _ _ ⟨G, e, k⟩ => ⟨G, e, fun _ G1 _ n1 d1 => ⟨G1, n1.gh, fun _ _ _ n2 d2 => k _ _ _ (n1.trans n2) (.cons (d1.mono n2.gg) d2)⟩⟩
theorem dx_tup {es : List Expr} {ds : List PyData} {x1} (h : PA X es (tDxs X.w ds)) (hl : ds.length ≤ sizeLine) : PE X (.Tuple es x1 pos) (tDx X.w (.tuple ds)) :=
  PE.imp (pe_tup h) fun _ _ _ ⟨G, e, k⟩ => ⟨G, e, fun vs G1 H1 n1 d1 => ⟨by rw [d1.len]; exact hl, fun p np => k _ _ _ (n1.trans (Nw.mk1 n1.gh np (.tup vs))) (.tup upd_same (d1.mono (Nw.mk1 n1.gh np (.tup vs)).gg))⟩⟩
theorem dx_lst {es : List Expr} {ds : List PyData} (h : PA X es (tDxs X.w ds)) (hl : ds.length ≤ sizeLine) : PE X (.List es pos) (tDx X.w (.list ds)) :=
  PE.imp (pe_lst h) fun _ _ _ ⟨G, e, k⟩ => ⟨G, e, fun vs G1 H1 n1 d1 => ⟨by rw [d1.len]; exact hl, fun p np => k _ _ _ (n1.trans (Nw.mk1 n1.gh np (.lst vs))) (.lst upd_same (d1.mono (Nw.mk1 n1.gh np (.lst vs)).gg))⟩⟩
theorem dx_dict0 : PE X (.Dict [] [] pos) (tDx X.w (.dict [])) :=
  PE.imp (pe_frz pe_dnewK) fun _ _ _ ⟨G, e, k⟩ => fun p np => ⟨p, .inl ⟨[], upd_same, fun od h => by
    rw [upd_upd] at h ⊢
    exact k _ _ _ (Nw.mk1 e np _) (.dct (df_leaf h upd_same upd_same fun x hx => nomatch hx) .nil .nil)⟩⟩
/-- an expression that gives new data of its own kind -/
theorem dx_of {e : Expr} {te : TE} {d : PyData} (h : PE X e te) (i : ∀ σ H Q, (∃ G, Same G H ∧ ∀ v G' H', Nw G H G' H' → Dx X.w G' v d → Q v H') → te σ H Q) : PE X e (tDx X.w d) := PE.imp h fun σ H Q q => i σ H Q q
end
/-! ### how large a thing is when shown -/
structure Sz (B k : Nat) (d : PyData) : Prop where
  sh : d.showable = true
  ln : d.shown.length ≤ B
  dp : d.depth ≤ k
theorem Sz.up {B B' k k' : Nat} {d : PyData} (h : Sz B k d) (h1 : B ≤ B') (h2 : k ≤ k') : Sz B' k' d := ⟨h.sh, by have := h.ln; omega, by have := h.dp; omega⟩
theorem Sz.shw {B k : Nat} {d : PyData} (h : Shw B k d) : Sz B k d := ⟨h.sh, h.ln, h.dp⟩
theorem sz_tup {B k n : Nat} {ds : List PyData} (h : ∀ d ∈ ds, Sz B k d) (hn : ds.length ≤ n) : Sz (n * (B + 2) + 3) (k + 1) (.tuple ds) := by
  refine ⟨by simp only [PyData.showable]; exact showAll_of ds fun d hd => (h d hd).sh, ?_, by simp only [PyData.depth]; have := depthAll_le k ds fun d hd => (h d hd).dp; omega⟩
  simp only [PyData.shown]
  rw [shownAll_map]
  have := tupleText_le B (ds.map PyData.shown) fun t ht => by
    obtain ⟨d, hd, rfl⟩ := List.mem_map.mp ht
    exact (h d hd).ln
  rw [List.length_map] at this
  have := Nat.mul_le_mul_right (B + 2) hn
  omega
theorem lstText_le (B : Nat) (ts : List Str) (h : ∀ t ∈ ts, t.length ≤ B) : (listText ts).length ≤ ts.length * (B + 2) + 3 := by
  have key : ∀ (ts : List Str) (k : Nat) (acc : Str), (∀ t ∈ ts, t.length ≤ B) → (textFrom k acc ts).length ≤ acc.length + ts.length * (B + 2) := by
    intro ts
    induction ts with
    | nil => intro k acc _; simp [textFrom]
    | cons t r ih =>
      intro k acc h
      have h1 := h t List.mem_cons_self
      have h2 := fun k acc => ih k acc fun x hx => h x (List.mem_cons_of_mem _ hx)
      unfold textFrom
      refine Nat.le_trans (h2 _ _) ?_
      have e2 : (((", " : String) : Str)).length = 2 := by decide
      have e0 : ((("" : String) : Str)).length = 0 := by decide
      rw [List.length_cons, Nat.succ_mul]
      split <;> simp only [lenap] <;> omega
  unfold listText
  have := key ts 0 "[" h
  have e1 : ((("[" : String) : Str)).length = 1 := by decide
  have e3 : ((("]" : String) : Str)).length = 1 := by decide
  rw [lenap]
  omega
theorem sz_lst {B k n : Nat} {ds : List PyData} (h : ∀ d ∈ ds, Sz B k d) (hn : ds.length ≤ n) : Sz (n * (B + 2) + 3) (k + 1) (.list ds) := by
  refine ⟨by simp only [PyData.showable]; exact showAll_of ds fun d hd => (h d hd).sh, ?_, by simp only [PyData.depth]; have := depthAll_le k ds fun d hd => (h d hd).dp; omega⟩
  simp only [PyData.shown]
  rw [shownAll_map]
  have := lstText_le B (ds.map PyData.shown) fun t ht => by
    obtain ⟨d, hd, rfl⟩ := List.mem_map.mp ht
    exact (h d hd).ln
  rw [List.length_map] at this
  have := Nat.mul_le_mul_right (B + 2) hn
  omega
theorem sz_dct {B k n : Nat} {ds : List (PyData × PyData)} (h : ∀ d ∈ ds, Sz B k d.1 ∧ Sz B k d.2) (hn : ds.length ≤ n) : Sz (n * (2 * B + 4) + 2) (k + 1) (.dict ds) := by
  refine ⟨by simp only [PyData.showable]; exact showKv_of _ fun d hd => ⟨(h d hd).1.sh, (h d hd).2.sh⟩, ?_, by simp only [PyData.depth]; have := depthKv_le k ds fun d hd => ⟨(h d hd).1.dp, (h d hd).2.dp⟩; omega⟩
  simp only [PyData.shown]
  rw [shownKv_map]
  have := dictText_le (2 * B + 2) (ds.map fun p => p.1.shown ++ ((": " : String) : Str) ++ p.2.shown) fun t ht => by
    obtain ⟨d, hd, rfl⟩ := List.mem_map.mp ht
    have h1 := (h d hd).1.ln
    have h2 := (h d hd).2.ln
    have e : (((": " : String) : Str)).length = 2 := by decide
    rw [lenap, lenap, e]; omega
  rw [List.length_map] at this
  have h2 := Nat.mul_le_mul_right (2 * B + 4) hn
  rw [show 2 * B + 2 + 2 = 2 * B + 4 by omega] at this
  omega
end My

set_option linter.all false
namespace My
open PySem PySem.Spec PyProof.Rows L2
/-! ### something odd -/
abbrev sOddW : Stmt := topS 21
def a9 : Str := ofL (List.replicate 9 (tl "a")).flatten
def oddsD : List PyData := [.bool true, .bool false, .none, .str "", .str "A", .str "a1", .str a9, .int 0, .int (-1), .int 10, .tuple [], .list [], .dict [], .tuple [.int 0], .str "zz", .int (10 ^ 30)]
theorem pow1030 : CPow 10 30 := ⟨by decide, by decide, by decide⟩
theorem dx_a9 {X : Cx} {pos p q : Pos} {a b : Nat} : PE X (.BinOp (.Constant (.str "a") a p) .Mult (.Constant (.int 9) b q) pos) (tDx X.w (.str a9)) :=
  dx_of (pe_op op_mulS pe_str pe_int) fun _ _ _ ⟨_, e, k⟩ => ⟨"a", 9, rfl, rfl, by decide, by decide, by decide, k _ _ _ (Nw.refl e) (.str _)⟩
/-- a value that is data beside the pen -/
def DX (w : World) (p : Addr) (S : PyData → Prop) (H : Hp) (v : V) : Prop := ∃ d, Dx w (off H p) v d ∧ S d
theorem DX.but {w : World} {p : Addr} {S : PyData → Prop} {H H' : Hp} {v : V} (h : DX w p S H v) (b : But p H H') : DX w p S H' v := let ⟨d, a, c⟩ := h; ⟨d, a.mono (off_but b), c⟩
theorem DX.up {w : World} {p : Addr} {S S' : PyData → Prop} {H : Hp} {v : V} (h : DX w p S H v) (i : ∀ d, S d → S' d) : DX w p S' H v := let ⟨d, a, c⟩ := h; ⟨d, a, i d c⟩
def spOddW (w : World) : Sp := fun vs H Q _ => ∃ (p pc : Addr) (t : Nat), vs = [.ref p] ∧ PenC H p pc t ∧ t + 1 < 2 ^ 29 ∧ ∀ v H', But p H H' → PenC H' p pc (t + 1) → DX w p (· ∈ oddsD) H' v → Q v H'
section
variable {P : Program} {w : World} {K : PySem.W.Frag} {mg : Str → Option Value} {base : Heap}
theorem scOddW : FnScope ["pen", "some"] ["pen"] (defScope sOddW) := ⟨rfl, rfl, rfl, by decide +kernel, rfl, by decide +kernel, by decide +kernel⟩
theorem dx_at {w : World} {G : Hp} {vs : List V} {ds : List PyData} (h : DxAll w G vs ds) {i : Int} (h0 : 0 ≤ i) (h1 : i < ds.length) : ∃ v d, atI vs i = some v ∧ d ∈ ds ∧ Dx w G v d := by
  obtain ⟨j, rfl⟩ : ∃ j : Nat, i = (j : Int) := ⟨i.toNat, by omega⟩
  have hj : j < vs.length := by have := h.len; omega
  obtain ⟨d, e, x⟩ := h.get (List.getElem?_eq_getElem hj)
  exact ⟨vs[j], d, atI_nat (List.getElem?_eq_getElem hj), List.mem_of_getElem? e, x⟩
theorem ok_oddW {f fT : Addr} {fd fdT : FuncData} (F : Fun K "_law_odd" "_law_odd" sOddW f fd)
    (FT : Fun K "_law_take" "_law_take" sTake fT fdT) (GT : FnOk P w K mg base CX0 2 fT fdT ["pen", "many"] spTakeC) (bT : Binds K fdT ["pen", "many"] []) (gT : mg "_law_take" = some (.ref fT)) :
    FnOk P w K mg base CX0 3 f fd ["pen"] (spOddW w) := by
  refine F.ok scOddW (fun vs H Q E h => ?_) (fun cdv A outer s H vs Q E hr h => ?_)
  · obtain ⟨p, pc, t, rfl, _⟩ := h
    rfl
  · obtain ⟨p, pc, t, rfl, C, tt, k⟩ := h
    have hr2 := hr
    refine ⟨_, (pss_cons (ps_set (i := 1) scOddW.nd rfl (Or.inl rfl) (pe_lst (dxs_cons dx_bl (dxs_cons dx_bl (dxs_cons dx_non (dxs_cons dx_str (dxs_cons dx_str (dxs_cons dx_str (dxs_cons dx_a9 (dxs_cons dx_int (dxs_cons dx_neg (dxs_cons dx_int (dxs_cons (dx_tup dxs_nil (by show 0 ≤ sizeLine; decide)) (dxs_cons (dx_lst dxs_nil (by show 0 ≤ sizeLine; decide)) (dxs_cons dx_dict0 (dxs_cons (dx_tup (dxs_cons dx_int dxs_nil) (by show 1 ≤ sizeLine; decide)) (dxs_cons dx_str (dxs_cons (dx_pow pow1030) dxs_nil))))))))))))))))))
      (pss_one (ps_ret (pe_ix ix_list (pv 1) (pe_call GT hr2 (by rfl) gT FT.kp bT .nil pass0 (pa_cons (pv 0) (pa_cons pe_int pa_nil))) (fun _ _ => rfl))))), ?_⟩
    have hp : H p ≠ none := C.any.some
    refine ⟨off H p, off_same, fun vs G1 H1 m1 d1 => ?_⟩
    have l1 := d1.len
    refine ⟨by rw [l1]; decide, fun l nl => ?_⟩
    have s1 : Same H (upd H1 l (.lst vs)) := m1.hh.trans (Same.upd nl)
    have C1 := C.same s1 (Nat.le_refl _)
    have lp : l ≠ p := fun z => m1.hh.free (z ▸ nl) |> (z ▸ hp)
    have d2 := (d1.mono (nw_off m1 hp)).mono (off_of (Same.upd (o := .lst vs) nl))
    refine ⟨_, rfl, _, rfl, p, pc, 16, _, rfl, by decide, by decide, C1, by omega, fun i H2 i0 i1 b2 C2 => ?_⟩
    have d3 := d2.mono (off_but b2)
    obtain ⟨v, d, e1, e2, e3⟩ := dx_at d3 i0 (by show i < 16; exact i1)
    exact ⟨l, _, _, v, rfl, rfl, SqL.of (b2 _ _ lp upd_same), e1, k _ _ ((But.of s1).trans b2) C2 ⟨d, e3, e2⟩⟩
end
end My

set_option linter.all false
namespace My
open PySem PySem.Spec PyProof.Rows L2
/-! ### a row with a part otherwise -/
abbrev sBRow : Stmt := topS 22
def pairT (q : Int × Str) : PyData := .tuple [.int q.1, .str q.2]
def Fq (q : Int × Str) : Prop := 0 ≤ q.1 ∧ q.1 ≤ 10 ∧ NameOk q.2
abbrev S1 : PyData → Prop := Sz 2000 1
abbrev S2 : PyData → Prop := Sz 8000 3
abbrev SR : PyData → Prop := Sz 400000 5
theorem s1_int {i : Int} (h0 : 0 ≤ i) (h1 : i ≤ 10) : S1 (.int i) := (Sz.shw (shw_int h0 h1)).up (by decide) (by decide)
theorem s1_str {x : Str} (h : NameOk x) : S1 (.str x) := (Sz.shw (shw_str h)).up (by decide) (by decide)
theorem s2_tup {ds : List PyData} (h : ∀ d ∈ ds, S1 d) (hn : ds.length ≤ 3) : S2 (.tuple ds) := (sz_tup (n := 3) h hn).up (by decide) (by decide)
theorem s2_lst {ds : List PyData} (h : ∀ d ∈ ds, S1 d) (hn : ds.length ≤ 3) : S2 (.list ds) := (sz_lst (n := 3) h hn).up (by decide) (by decide)
theorem sr_tup {ds : List PyData} (h : ∀ d ∈ ds, S2 d) (hn : ds.length ≤ 40) : SR (.tuple ds) := (sz_tup (n := 40) h hn).up (by decide) (by decide)
theorem sr_lst {ds : List PyData} (h : ∀ d ∈ ds, S2 d) (hn : ds.length ≤ 40) : SR (.list ds) := (sz_lst (n := 40) h hn).up (by decide) (by decide)
theorem s2_pair {q : Int × Str} (h : Fq q) : S2 (pairT q) := s2_tup (fun d hd => by
  rcases List.mem_cons.mp hd with rfl | hd
  · exact s1_int h.1 h.2.1
  · rw [List.mem_singleton.mp hd]; exact s1_str h.2.2) (by simp)
theorem s1_big : S1 (.int (10 ^ 30)) := by
  have hl : ((10 : Int) ^ 30).natAbs.log2 < 1920 := Nat.lt_trans (PySem.Flt.log2_lt_of (k := 1900) (by decide) (by decide)) (by decide)
  exact ⟨by simp only [PyData.showable]; exact decide_eq_true hl, Nat.le_trans (int_text_len_1921 hl) (by decide), by simp only [PyData.depth]; omega⟩
theorem s1_neg : S1 (.int (-1)) := by
  have hl : (-1 : Int).natAbs.log2 < 1920 := by decide
  exact ⟨by simp only [PyData.showable]; exact decide_eq_true hl, Nat.le_trans (int_text_len_1921 hl) (by decide), by simp only [PyData.depth]; omega⟩
theorem s1_text {x : Str} (h : (reprText x).length ≤ 2000) : S1 (.str x) := ⟨by simp only [PyData.showable], h, by simp only [PyData.depth]; omega⟩
theorem odd_s1 : ∀ d ∈ oddsD, S1 d := by
  intro d hd
  unfold oddsD at hd
  simp only [List.mem_cons, List.not_mem_nil, or_false] at hd
  rcases hd with rfl | rfl | rfl | rfl | rfl | rfl | rfl | rfl | rfl | rfl | rfl | rfl | rfl | rfl | rfl | rfl
  · exact ⟨by simp only [PyData.showable], by decide, by simp only [PyData.depth]; omega⟩
  · exact ⟨by simp only [PyData.showable], by decide, by simp only [PyData.depth]; omega⟩
  · exact ⟨by simp only [PyData.showable], by decide, by simp only [PyData.depth]; omega⟩
  · exact s1_text (by decide +kernel)
  · exact s1_text (by decide +kernel)
  · exact s1_text (by decide +kernel)
  · exact s1_text (by decide +kernel)
  · exact s1_int (by decide) (by decide)
  · exact s1_neg
  · exact s1_int (by decide) (by decide)
  · exact (sz_tup (B := 0) (k := 0) (n := 0) (ds := []) (fun _ h => absurd h List.not_mem_nil) (by decide)).up (by decide) (by decide)
  · exact (sz_lst (B := 0) (k := 0) (n := 0) (ds := []) (fun _ h => absurd h List.not_mem_nil) (by decide)).up (by decide) (by decide)
  · exact (sz_dct (B := 0) (k := 0) (n := 0) (ds := []) (fun _ h => absurd h List.not_mem_nil) (by decide)).up (by decide) (by decide)
  · exact (sz_tup (B := 1921) (k := 0) (n := 1) (fun d h => by rw [List.mem_singleton.mp h]; exact Sz.shw (shw_int (by decide) (by decide))) (by decide)).up (by decide) (by decide)
  · exact s1_text (by decide +kernel)
  · exact s1_big
/-- a tuple beside the pen -/
abbrev TupS (S : PyData → Prop) (n : Nat) : PyData → Prop := fun d => ∃ ds, d = .tuple ds ∧ (∀ x ∈ ds, S x) ∧ ds.length ≤ n
theorem dx_tup_inv {w : World} {G : Hp} {v : V} {ds : List PyData} (h : Dx w G v (.tuple ds)) : ∃ a xs, v = .ref a ∧ G a = some (.tup xs) ∧ DxAll w G xs ds := by
  cases h with
  | tup h t => exact ⟨_, _, rfl, h, t⟩
section
variable {X : Cx}
def rSlX (w : World) (p pc : Addr) : V → Option Int → Option Int → Hp → VK → Prop := fun x lo hi H Q => ∃ (S : PyData → Prop) (n t : Nat), PenC H p pc t ∧ DX w p (TupS S n) H x ∧ ∀ v H', Same H H' → DX w p (TupS S n) H' v → Q v H'
theorem sl_tupX (p pc : Addr) : SlR X (rSlX X.w p pc) := SlR.imp sl_tupG fun x lo hi H Q h => by
  obtain ⟨S, n, t, PC, ⟨_, hx, ds, rfl, it, ln⟩, k⟩ := h
  obtain ⟨a, xs, e, g, q⟩ := dx_tup_inv hx
  refine ⟨off H p, a, xs, e, off_same, g, fun c G' H' m hc => ?_⟩
  refine k _ _ m.hh ⟨_, Dx.mono (nw_off m PC.any.some) (.tup hc (((q.mono m.gg).drop (HT.sIx xs.length 0 lo)).take (HT.sIx xs.length xs.length hi - HT.sIx xs.length 0 lo))), _, rfl, fun d hd => it d (List.mem_of_mem_drop (List.mem_of_mem_take hd)), ?_⟩
  rw [List.length_take, List.length_drop]; omega
def rCatX (w : World) (p pc : Addr) : R2 := fun x y H Q => ∃ (S : PyData → Prop) (n m t : Nat), PenC H p pc t ∧ DX w p (TupS S n) H x ∧ DX w p (TupS S m) H y ∧ n + m ≤ 90 ∧ ∀ v H', Same H H' → DX w p (TupS S (n + m)) H' v → Q v H'
theorem op_catX (p pc : Addr) : OpR X (binaryOp .Add) (rCatX X.w p pc) := OpR.imp op_catG fun x y H Q h => by
  obtain ⟨S, n, m, t, PC, ⟨_, hx, ds, rfl, it, ln⟩, ⟨_, hy, ds2, rfl, it2, ln2⟩, b90, k⟩ := h
  obtain ⟨a, xs, e, g, q⟩ := dx_tup_inv hx
  obtain ⟨a2, xs2, e2, g2, q2⟩ := dx_tup_inv hy
  refine ⟨off H p, a, a2, xs, xs2, e, e2, off_same, g, g2, (by rw [q.len, q2.len, sizeLine_eq]; omega), fun c G' H' mm hc => ?_⟩
  refine k _ _ mm.hh ⟨_, Dx.mono (nw_off mm PC.any.some) (.tup hc ((q.mono mm.gg).append (q2.mono mm.gg))), _, rfl, fun d hd => ?_, by rw [List.length_append]; omega⟩
  rcases List.mem_append.mp hd with h | h
  · exact it d h
  · exact it2 d h
end
theorem dx_new {w : World} {p pc c : Addr} {t : Nat} {H : Hp} {xs : List V} {ds : List PyData} (P : PenC H p pc t) (h : H c = some (.tup xs)) (d : DxAll w (off H p) xs ds) : Dx w (off H p) (.ref c) (.tuple ds) := .tup (tup_off P h) d
theorem dx_zs {w : World} {G : Hp} : ∀ {zs : List (Addr × Int × Str)}, (∀ z ∈ zs, G z.1 = some (.tup (pv2 z.2))) → DxAll w G (zs.map fun z => V.ref z.1) ((zs.map (·.2)).map pairT)
  | [], _ => .nil
  | z :: zs, h => .cons (.tup (h z List.mem_cons_self) (.cons (.int _) (.cons (.str _) .nil))) (dx_zs fun y hy => h y (List.mem_cons_of_mem _ hy))
def RowF (d : PyData) : Prop := ∃ row : List (Int × Str), d = .tuple (row.map pairT) ∧ row.length ≤ 12 ∧ ∀ q ∈ row, Fq q
theorem RowF.tup {d : PyData} (h : RowF d) : TupS S2 12 d := by
  obtain ⟨row, e, l, f⟩ := h
  exact ⟨_, e, fun x hx => by obtain ⟨q, hq, rfl⟩ := List.mem_map.mp hx; exact s2_pair (f q hq), by rw [List.length_map]; exact l⟩
def spBRow (w : World) : Sp := fun vs H Q _ => ∃ (p pc ln : Addr) (b : Int) (v : V) (ns : List Str) (t : Nat), vs = [.ref p, .int b, v, .ref ln] ∧ 2 ≤ b ∧ b ≤ 10 ∧ ns ≠ [] ∧ ns.length ≤ 8 ∧ (∀ x ∈ ns, NameOk x) ∧ PenC H p pc t ∧ t + 20 < 2 ^ 29 ∧ ln ≠ p ∧ H ln = some (.lst (ns.map V.str)) ∧ DX w p RowF H v ∧
  ∀ v H', But p H H' → PenC H' p pc (t + 10) → DX w p SR H' v → Q v H'
structure TxW (mg : Str → Option Value) : Prop where
  len : mg "len" = none
  range : mg "range" = none
  tuple : mg "tuple" = none
  sorted : mg "sorted" = none
  dict : mg "dict" = none
  list : mg "list" = none
section
variable {P : Program} {w : World} {K : PySem.W.Frag} {mg : Str → Option Value} {base : Heap}
theorem scBRow : FnScope ["pen", "base", "row", "names", "at", "pair", "way", "more", "odd", "digit", "one"] ["pen", "base", "row", "names"] (defScope sBRow) := ⟨rfl, rfl, rfl, by decide +kernel, rfl, by decide +kernel, by decide +kernel⟩
theorem dp_row {H : Hp} {a : Addr} : ∀ {xs : List V} {row : List (Int × Str)}, DxAll w H xs (row.map pairT) → DpAll K H xs (row.map pairT) := by
  intro xs row
  induction row generalizing xs with
  | nil => intro h; cases h; exact .nil
  | cons q r ih =>
    intro h
    cases h with
    | cons a b =>
      obtain ⟨c, ys, rfl, hc, d⟩ := dx_tup_inv a
      cases d with
      | cons a1 d =>
        cases d with
        | cons a2 d =>
          cases d
          cases a1; cases a2
          exact .cons (.tup (SqT.of hc) (.cons (.int _) (.cons (.str _) .nil))) (ih b)
theorem strOk_let {x : Str} (h : Lets (tl x)) : PyData.strOk x = true := by
  unfold PyData.strOk
  rw [← Array.all_toList]
  exact List.all_eq_true.mpr fun c hc => decide_eq_true (by have := h c hc; omega)
theorem shp_row (row : List (Int × Str)) (h : ∀ q ∈ row, Fq q) : SeqAt.shaped (.tuple (row.map pairT)) = true := by
  have h1 : PyData.canLayAll0 (row.map pairT) = true := by
    induction row with
    | nil => simp [PyData.canLayAll0]
    | cons q r ih => simp only [List.map_cons, PyData.canLayAll0, pairT, PyData.canLay0, ih fun y hy => h y (List.mem_cons_of_mem _ hy), strOk_let (h q List.mem_cons_self).2.2.lets, Bool.and_true]
  have h2 : PyData.depthAll (row.map pairT) ≤ 1 := depthAll_le 1 _ fun d hd => by
    obtain ⟨q, _, rfl⟩ := List.mem_map.mp hd
    simp only [pairT, PyData.depth, PyData.depthAll]; omega
  unfold SeqAt.shaped
  simp only [PyData.canLay0, PyData.depth, h1, Bool.true_and]
  exact decide_eq_true (by omega)
theorem ne_row {row : List (Int × Str)} (h : (!PyData.eqv (.tuple (row.map pairT)) (.tuple [])) = true) : row ≠ [] := fun z => by
  subst z
  simp [PyData.eqv, PyData.eqvAll] at h
theorem str_last {ns : List Str} (h : ns ≠ []) : ∃ x ∈ ns, atI (ns.map V.str) (-1) = some (.str x) := by
  have l := List.length_pos_iff.mpr h
  refine ⟨ns[ns.length - 1], List.getElem_mem (by omega), ?_⟩
  unfold atI ixN
  rw [List.length_map, if_neg (by omega), if_pos (by omega)]
  show (ns.map V.str)[((ns.length : Int) + -1).toNat]? = _
  have : ((ns.length : Int) + -1).toNat = ns.length - 1 := by omega
  rw [this, List.getElem?_map, List.getElem?_eq_getElem (by omega)]
  rfl
theorem ok_brow {f fT fO : Addr} {fd fdT fdO : FuncData} (F : Fun K "_law_bent_row" "_law_bent_row" sBRow f fd) (T : TxW mg)
    (FT : Fun K "_law_take" "_law_take" sTake fT fdT) (GT : FnOk P w K mg base CX0 2 fT fdT ["pen", "many"] spTakeC) (bT : Binds K fdT ["pen", "many"] []) (gT : mg "_law_take" = some (.ref fT))
    (FO : Fun K "_law_odd" "_law_odd" sOddW fO fdO) (GO : FnOk P w K mg base CX0 3 fO fdO ["pen"] (spOddW w)) (bO : Binds K fdO ["pen"] []) (gO : mg "_law_odd" = some (.ref fO)) :
    FnOk P w K mg base CX0 4 f fd ["pen", "base", "row", "names"] (spBRow w) := by
  refine F.ok scBRow (fun vs H Q E h => ?_) (fun cdv A outer s H vs Q E hr h => ?_)
  · obtain ⟨p, pc, ln, b, v, ns, t, rfl, _⟩ := h
    rfl
  · obtain ⟨p, pc, ln, b, v, ns, t, rfl, b0, b1, n0, n8, nok, C, tt, lp, hln, hv, k⟩ := h
    have hr3 := hr
    have hr2 : Room 2 _ := hr.mono (by decide)
    have hu := hr.units
    refine ⟨_, (pss_cons (ps_set (i := 4) scBRow.nd rfl (Or.inl rfl) (pe_call GT hr2 (by rfl) gT FT.kp bT .nil pass0 (pa_cons (pv 0) (pa_cons (pe_op op_add (pe_callB call_len_seq (by rfl) T.len PySem.boot_len (pa_cons (pv 2) pa_nil)) pe_int) pa_nil))))
      (pss_cons (ps_set (i := 5) scBRow.nd rfl (Or.inl rfl) (pe_tupS (pa_cons (pe_call GT hr2 (by rfl) gT FT.kp bT .nil pass0 (pa_cons (pv 0) (pa_cons (pv 1) pa_nil))) (pa_cons (pe_ix ix_list (pv 3) (pe_call GT hr2 (by rfl) gT FT.kp bT .nil pass0 (pa_cons (pv 0) (pa_cons (pe_callB call_len_seq (by rfl) T.len PySem.boot_len (pa_cons (pv 3) pa_nil)) pa_nil))) (fun _ _ => rfl)) pa_nil))))
      (pss_cons (ps_set (i := 6) scBRow.nd rfl (Or.inl rfl) (pe_call GT hr2 (by rfl) gT FT.kp bT .nil pass0 (pa_cons (pv 0) (pa_cons pe_int pa_nil))))
      (pss_cons (ps_if (pt_cmpR op_eq (pv 6) pe_int (nomark _)) (pss_one (ps_ret (pe_ix ix_list (pe_lstS (pa_cons (pe_callTy call_list_of (by rfl) T.list boot_list (pa_cons (pv 2) pa_nil)) (pa_cons pe_non (pa_cons pe_str (pa_cons pe_int (pa_cons (pe_ifExp (pt_cmpR (op_neD hr.units) (pv 2) (pe_tupS pa_nil) (nomark _)) (pe_ix ix_tup (pv 2) pe_int (fun _ _ => rfl)) dx_dict0) pa_nil)))))) (pe_call GT hr2 (by rfl) gT FT.kp bT .nil pass0 (pa_cons (pv 0) (pa_cons pe_int pa_nil))) (fun _ _ => rfl)))) pss_nil)
      (pss_cons (ps_if (pt_cmpR op_eq (pv 6) pe_int (nomark _)) (pss_one (ps_ret (pe_op (op_catX p pc) (pe_op (op_catX p pc) (pe_slice (sl_tupX p pc) (pv 2) po_none (po_some (pv 4))) (pe_tupS (pa_cons (pv 5) pa_nil))) (pe_slice (sl_tupX p pc) (pv 2) (po_some (pv 4)) po_none)))) pss_nil)
      (pss_cons (ps_if (pt_cmpR op_eq (pv 6) pe_int (nomark _)) (pss_one (ps_ret (pe_revT (pv 2)))) pss_nil)
      (pss_cons (ps_if (pt_cmpR op_eq (pv 6) pe_int (nomark _)) (pss_cons (ps_set (i := 7) scBRow.nd rfl (Or.inl rfl) (pe_op op_cat (pe_lc (own := [("digit", 9)]) (g := gName 9) (tt := tYes) rfl scBRow.nd (pi_range1 (by rfl) T.range (pa_cons (pv 1) pa_nil)) (blkOk_by (N := ["pen", "base", "row", "names", "at", "pair", "way", "more", "odd", "digit", "one"]) (sc := defScope sBRow) (by decide +kernel)) (fun _ _ _ _ _ => (pg_name (i := 9) scBRow.nd rfl (Or.inl rfl))) (fun _ _ _ _ _ => pts_nil) (fun _ _ _ _ _ => (pe_tupS (pa_cons (pv 9) (pa_cons (pe_ix (show IxR _ (rIxL K) from ix_list) (pv 3) pe_int (fun _ _ => rfl)) pa_nil))))) (pe_lc (own := [("digit", 9)]) (g := gName 9) (tt := tYes) rfl scBRow.nd (pi_range1 (by rfl) T.range (pa_cons (pv 1) pa_nil)) (blkOk_by (N := ["pen", "base", "row", "names", "at", "pair", "way", "more", "odd", "digit", "one"]) (sc := defScope sBRow) (by decide +kernel)) (fun _ _ _ _ _ => (pg_name (i := 9) scBRow.nd rfl (Or.inl rfl))) (fun _ _ _ _ _ => pts_nil) (fun _ _ _ _ _ => (pe_tupS (pa_cons (pv 9) (pa_cons (pe_ix (show IxR _ (rIxL K) from ix_list) (pv 3) (pe_un un_neg pe_int) (fun _ _ => rfl)) pa_nil)))))))
      (pss_one (ps_ret (pe_slice (sl_tupX p pc) (pe_callTy call_tuple_of (by rfl) T.tuple boot_tuple (pa_cons (pe_callB (call_sortedDT rfl) (by rfl) T.sorted boot_sorted (pa_cons (pe_callTy (call_dictTP rfl hu) (by rfl) T.dict boot_dict (pa_cons (pe_lc (own := [("one", 10)]) (g := gName 10) (tt := tYes) rfl scBRow.nd (pi_list (pv 7)) (blkOk_by (N := ["pen", "base", "row", "names", "at", "pair", "way", "more", "odd", "digit", "one"]) (sc := defScope sBRow) (by decide +kernel)) (fun _ _ _ _ _ => (pg_name (i := 10) scBRow.nd rfl (Or.inl rfl))) (fun _ _ _ _ _ => pts_nil) (fun _ _ _ _ _ => (pe_tupS (pa_cons (pv 10) (pa_cons pe_bl pa_nil))))) pa_nil)) pa_nil)) pa_nil)) po_none (po_some (pe_op op_add pe_int (pe_call GT hr2 (by rfl) gT FT.kp bT .nil pass0 (pa_cons (pv 0) (pa_cons pe_int pa_nil))))))))) pss_nil)
      (pss_cons (ps_set (i := 8) scBRow.nd rfl (Or.inl rfl) (pe_lstS (pa_cons (pe_op (op_catX p pc) (pv 5) (pe_tupS (pa_cons pe_int pa_nil))) (pa_cons (pe_callTy call_list_of (by rfl) T.list boot_list (pa_cons (pv 5) pa_nil)) (pa_cons (pe_tupS (pa_cons (pe_ix ix_tup (pv 5) pe_int (fun _ _ => rfl)) (pa_cons (pe_ix ix_tup (pv 5) pe_int (fun _ _ => rfl)) pa_nil))) (pa_cons (pe_tupS (pa_cons (pe_call GO hr3 (by rfl) gO FO.kp bO .nil pass0 (pa_cons (pv 0) pa_nil)) (pa_cons (pe_ix ix_tup (pv 5) pe_int (fun _ _ => rfl)) pa_nil))) (pa_cons (pe_tupS (pa_cons (pe_ix ix_tup (pv 5) pe_int (fun _ _ => rfl)) (pa_cons (pe_call GO hr3 (by rfl) gO FO.kp bO .nil pass0 (pa_cons (pv 0) pa_nil)) pa_nil))) (pa_cons (pe_slice (sl_tupX p pc) (pv 5) po_none (po_some pe_int)) pa_nil))))))))
      (pss_one (ps_ret (pe_op (op_catX p pc) (pe_op (op_catX p pc) (pe_slice (sl_tupX p pc) (pv 2) po_none (po_some (pv 4))) (pe_tupS (pa_cons (pe_ix ix_list (pv 8) (pe_call GT hr2 (by rfl) gT FT.kp bT .nil pass0 (pa_cons (pv 0) (pa_cons pe_int pa_nil))) (fun _ _ => rfl)) pa_nil))) (pe_slice (sl_tupX p pc) (pv 2) (po_some (pe_op op_add (pv 4) (pe_call GT hr2 (by rfl) gT FT.kp bT .nil pass0 (pa_cons (pv 0) (pa_cons pe_int pa_nil))))) po_none)))))))))))), ?_⟩
    obtain ⟨_, hx, row, rfl, r12, rf⟩ := hv
    obtain ⟨ra, xs, rfl, hra, hxs⟩ := dx_tup_inv hx
    have lxs : xs.length = row.length := by have := hxs.len; rwa [List.length_map] at this
    -- at
    refine ⟨_, rfl, _, rfl, ra, xs, rfl, .inr (SqT.of (off_same _ _ hra)), ?_⟩
    have C0 := C
    refine ⟨_, _, rfl, rfl, p, pc, _, t, rfl, by omega, small_int (by omega) (by omega), C, by omega, fun at' H1 a0 a1 b1' C1 => ?_⟩
    -- pair
    refine ⟨_, rfl, _, rfl, p, pc, b, _, rfl, by omega, small_int (by omega) (by omega), C1, by omega, fun dg H2 d0 d1 b2 C2 => ?_⟩
    have hln2 := b2 _ _ lp (b1' _ _ lp hln)
    refine ⟨_, rfl, _, rfl, _, rfl, ln, _, rfl, .inl (SqL.of hln2), p, pc, _, _, rfl, by rw [List.length_map]; have := List.length_pos_iff.mpr n0; omega, by rw [List.length_map]; exact small_nat (by omega), C2, by omega, fun ix H3 i0 i1 b3 C3 => ?_⟩
    rw [List.length_map] at i1
    obtain ⟨nm, nmin, hnm⟩ := str_at i0 i1
    have hln3 := b3 _ _ lp hln2
    refine ⟨ln, _, _, _, rfl, rfl, SqL.of hln3, hnm, ?_⟩
    refine ⟨(by show 2 ≤ sizeLine; decide), fun pr H4 s4 hpr => ?_⟩
    have b04 : But p H H4 := ((b1'.trans b2).trans b3).trans (But.of s4)
    have C4 := C3.same s4 (Nat.le_refl _)
    have hln4 := s4 _ _ hln3
    -- way
    refine ⟨_, rfl, p, pc, 7, _, rfl, by decide, by decide, C4, by omega, fun wy H5 w0 w1 b5 C5 => ?_⟩
    have b05 := b04.trans b5
    have hln5 := b5 _ _ lp hln4
    have prp : pr ≠ p := fun z => by
      have g := tup_off C4 hpr
      rw [z, off_at] at g; cases g
    have hpr5 := b5 _ _ prp hpr
    have fq : Fq (dg, nm) := ⟨d0, by show dg ≤ 10; omega, nok _ nmin⟩
    have hx5 := hx.mono (off_but b05)
    have hra5 := off_but b05 _ _ hra
    have hxs5 := hxs.mono (off_but b05)
    have dpr5 : Dx w (off H5 p) (.ref pr) (pairT (dg, nm)) := dx_new C5 hpr5 (.cons (.int _) (.cons (.str _) .nil))
    clear hln hln2 hln3 hln4 hpr hx hra hxs C C1 C2 C3 C4 b1' b2 b3 s4 b04 b5
    have dtx5 : DX w p (TupS S2 12) H5 (.ref ra) := ⟨_, hx5, RowF.tup ⟨row, rfl, r12, rf⟩⟩
    refine ⟨_, rfl, rfl, _, rfl, ite2 (fun _ => ?_) (fun c0 => ?_)⟩
    · refine ⟨_, rfl, ra, xs, rfl, .inr (SqT.of (off_same _ _ hra5)), fun l1 n1 => ?_⟩
      have s6 : Same H5 (upd H5 l1 (.lst xs)) := Same.upd n1
      refine ⟨_, rfl, (by show 0 ≤ sizeLine; decide), fun e He se hee => ?_⟩
      have sHe := s6.trans se
      have dl : Dx w (off He p) (.ref l1) (.list (row.map pairT)) := by
        have lp1 : l1 ≠ p := pen_not C5.any n1
        refine .lst (xs := xs) ?_ (hxs5.mono (off_of sHe))
        rw [off_ne lp1]; exact se _ _ upd_same
      have dpr := dp_row (K := K) (w := w) (H := He) (xs := xs) (row := row) (a := ra) (hxs5.mono (off_same.trans sHe))
      refine ⟨.tuple (row.map pairT), .tuple [], .tup (SqT.of (sHe _ _ (off_same _ _ hra5))) dpr, .tup (SqT.of hee) .nil, ?_, by decide, _, rfl, ite2 (fun ne => ?_) (fun _ => ?_)⟩
      · exact shp_row row rf
      · obtain ⟨q, r, rfl⟩ := List.exists_cons_of_ne_nil (ne_row ne)
        cases hxs5 with
        | @cons v0 vs _ _ dv0 _ =>
          refine ⟨_, rfl, ra, _, 0, v0, rfl, rfl, SqT.of (sHe _ _ (off_same _ _ hra5)), atI_nat (j := 0) rfl, ?_⟩
          have dv : DX w p SR He v0 := ⟨_, dv0.mono (off_of sHe), (s2_pair (rf q List.mem_cons_self)).up (by decide) (by decide)⟩
          have C6 := C5.same sHe (Nat.le_refl _)
          refine ⟨(by show 5 ≤ sizeLine; decide), fun l Hl sl _ hl => ?_⟩
          have C7 := C6.same sl (Nat.le_refl _)
          refine ⟨_, rfl, p, pc, 5, _, rfl, by decide, by decide, C7, by omega, fun i Hm i0' i1' bm Cm => ?_⟩
          have lpp : l ≠ p := fun z => by
            obtain ⟨cells, x, y, g1, _⟩ := C7.ex
            rw [z, g1] at hl; cases hl
          obtain ⟨d0, dv0, sv0⟩ := dv
          have all : DxAll w (off He p) [.ref l1, .non, .str "row", .int 0, v0] [.list ((q :: r).map pairT), .none, .str "row", .int 0, d0] := .cons (dl) (.cons .non (.cons (.str _) (.cons (.int _) (.cons dv0 .nil))))
          obtain ⟨v, d, e1, e2, e3⟩ := dx_at ((all.mono (off_of sl)).mono (off_but bm)) i0' i1'
          refine ⟨l, _, _, v, rfl, rfl, SqL.of (bm _ _ lpp hl), e1, k _ _ (b05.trans ((But.of (sHe.trans sl)).trans bm)) (Cm.same (Same.refl _) (by omega)) ⟨d, e3, ?_⟩⟩
          simp only [List.mem_cons, List.not_mem_nil, or_false] at e2
          rcases e2 with rfl | rfl | rfl | rfl | rfl
          · exact sr_lst (fun d hd => by
              obtain ⟨q', hq', rfl⟩ := List.mem_map.mp hd
              exact s2_pair (rf q' hq')) (by rw [List.length_map]; omega)
          · exact (odd_s1 .none (by simp [oddsD])).up (by decide) (by decide)
          · exact (s1_text (x := "row") (by decide +kernel)).up (by decide) (by decide)
          · exact (s1_int (by decide) (by decide)).up (by decide) (by decide)
          · exact sv0
      · refine ⟨off He p, off_same, fun v0 G' H' m dx => ?_⟩
        have hHe : He p ≠ none := keep_ne sHe C5.any.some
        have dv : DX w p SR H' v0 := ⟨_, dx.mono (nw_off m hHe), (odd_s1 (.dict []) (by simp [oddsD])).up (by decide) (by decide)⟩
        have sHe' := sHe.trans m.hh
        have dl' := dl.mono (off_of m.hh)
        have C6 := C5.same sHe' (Nat.le_refl _)
        refine ⟨(by show 5 ≤ sizeLine; decide), fun l Hl sl _ hl => ?_⟩
        have C7 := C6.same sl (Nat.le_refl _)
        refine ⟨_, rfl, p, pc, 5, _, rfl, by decide, by decide, C7, by omega, fun i Hm i0' i1' bm Cm => ?_⟩
        have lpp : l ≠ p := fun z => by
          obtain ⟨cells, x, y, g1, _⟩ := C7.ex
          rw [z, g1] at hl; cases hl
        obtain ⟨d0, dv0, sv0⟩ := dv
        have all : DxAll w (off H' p) [.ref l1, .non, .str "row", .int 0, v0] [.list (row.map pairT), .none, .str "row", .int 0, d0] := .cons (dl') (.cons .non (.cons (.str _) (.cons (.int _) (.cons dv0 .nil))))
        obtain ⟨v, d, e1, e2, e3⟩ := dx_at ((all.mono (off_of sl)).mono (off_but bm)) i0' i1'
        refine ⟨l, _, _, v, rfl, rfl, SqL.of (bm _ _ lpp hl), e1, k _ _ (b05.trans ((But.of (sHe'.trans sl)).trans bm)) (Cm.same (Same.refl _) (by omega)) ⟨d, e3, ?_⟩⟩
        simp only [List.mem_cons, List.not_mem_nil, or_false] at e2
        rcases e2 with rfl | rfl | rfl | rfl | rfl
        · exact sr_lst (fun d hd => by
            obtain ⟨q', hq', rfl⟩ := List.mem_map.mp hd
            exact s2_pair (rf q' hq')) (by rw [List.length_map]; omega)
        · exact (odd_s1 .none (by simp [oddsD])).up (by decide) (by decide)
        · exact (s1_text (x := "row") (by decide +kernel)).up (by decide) (by decide)
        · exact (s1_int (by decide) (by decide)).up (by decide) (by decide)
        · exact sv0
    refine ⟨_, rfl, rfl, _, rfl, ite2 (fun _ => ?_) (fun c1 => ?_)⟩
    · refine ⟨_, rfl, _, rfl, _, rfl, S2, 12, _, C5, dtx5, fun v1 Ha sa da => ?_⟩
      have Ca := C5.same sa (Nat.le_refl _)
      refine ⟨_, rfl, (by show 1 ≤ sizeLine; decide), fun c Hb sb hc => ?_⟩
      have Cb := Ca.same sb (Nat.le_refl _)
      have sab := sa.trans sb
      have dc : DX w p (TupS S2 1) Hb (.ref c) := ⟨_, dx_new Cb hc (.cons (dpr5.mono (off_of sab)) .nil), _, rfl, fun x hx => by rw [List.mem_singleton.mp hx]; exact s2_pair fq, Nat.le_refl _⟩
      refine ⟨S2, 12, 1, _, Cb, da.but (But.of sb), dc, by decide, fun v2 Hc sc d2 => ?_⟩
      have Cc := Cb.same sc (Nat.le_refl _)
      have sac := sab.trans sc
      refine ⟨_, rfl, _, rfl, _, rfl, S2, 12, _, Cc, dtx5.but (But.of sac), fun v3 Hd sd d3 => ?_⟩
      have Cd := Cc.same sd (Nat.le_refl _)
      refine ⟨S2, 13, 12, _, Cd, d2.but (But.of sd), d3, by decide, fun v4 Hf sf d4 => ?_⟩
      exact k _ _ (b05.trans (But.of ((sac.trans sd).trans sf))) (Cd.same sf (by omega)) (d4.up fun d h => by
        obtain ⟨ds, rfl, h1, h2⟩ := h
        exact sr_tup h1 (by omega))
    refine ⟨_, rfl, rfl, _, rfl, ite2 (fun _ => ?_) (fun c2 => ?_)⟩
    · refine ⟨_, rfl, ra, xs, rfl, SqT.of (off_same _ _ hra5), fun q nq => ?_⟩
      have sq : Same H5 (upd H5 q (.tup xs.reverse)) := Same.upd nq
      refine k _ _ (b05.trans (But.of sq)) (C5.same sq (by omega)) ⟨.tuple (row.map pairT).reverse, dx_new (C5.same sq (Nat.le_refl _)) upd_same ((hxs5.mono (off_of sq)).rev), sr_tup (fun d hd => ?_) (by rw [List.length_reverse, List.length_map]; omega)⟩
      obtain ⟨q, hq, rfl⟩ := List.mem_map.mp (List.mem_reverse.mp hd)
      exact s2_pair (rf q hq)
    refine ⟨_, rfl, rfl, _, rfl, ite2 (fun _ => ?_) (fun c3 => ?_)⟩
    · obtain ⟨fm, fmin, hfm⟩ := str_at (ns := ns) (i := 0) (by decide) (by have := List.length_pos_iff.mpr n0; omega)
      obtain ⟨lm, lmin, hlm⟩ := str_last n0
      refine ⟨_, rfl, _, rfl, by omega, by omega, fun D nD => ?_⟩
      refine lc_it (walk_range (lo := 0) (n := b.toNat)) (fun j Hi => Same H5 Hi ∧ j ≤ b.toNat ∧ ∃ zs : List (Addr × Int × Str), Hi D = some (.lst (zs.map fun z => V.ref z.1)) ∧ (∀ z ∈ zs, Hi z.1 = some (.tup (pv2 z.2)) ∧ Fq z.2) ∧ zs.length = j)
        ⟨Same.upd nD, Nat.zero_le _, [], upd_same, (fun _ h => nomatch h), rfl⟩ (fun _ _ _ _ => trivial) ?_ ?_
      · rintro j x Hi Hj hj ⟨sj, _, zs, hD, hz, hzl⟩ ⟨rfl, hx⟩
        replace hx : x = V.int j := hx.trans (by show V.int (0 + (j : Int)) = _; rw [Int.zero_add])
        subst hx
        refine ⟨rfl, ?_⟩
        refine ⟨_, rfl, _, rfl, ln, _, _, .str fm, rfl, rfl, SqL.of (sj _ _ hln5), hfm, (by show 2 ≤ sizeLine; decide), fun q Hk sk hq => ?_⟩
        have hDk := sk _ _ hD
        refine ⟨_, hDk, by rw [List.length_map, sizeLine_eq]; omega, fun c o hc => ?_, by omega, zs ++ [(q, ((j : Int), fm))], by rw [upd_same, List.map_append]; rfl, fun z hzm => ?_, by rw [List.length_append, hzl]; rfl⟩
        · rw [upd_ne (ne_of_none hc nD)]
          exact sk _ _ (sj c o hc)
        · rcases List.mem_append.mp hzm with hzm | hzm
          · have hk2 := sk _ _ (hz z hzm).1
            exact ⟨by rw [upd_ne (ne_tl hk2 hDk)]; exact hk2, (hz z hzm).2⟩
          · rw [List.mem_singleton.mp hzm]
            exact ⟨by rw [upd_ne (ne_tl hq hDk)]; exact hq, by show (0 : Int) ≤ (j : Int); omega, by show (j : Int) ≤ 10; omega, nok _ fmin⟩
      rintro H6 ⟨s6, _, zs, hD6, hz6, zl6⟩
      have hln6 := s6 _ _ hln5
      refine ⟨_, rfl, _, rfl, by omega, by omega, fun D2 nD2 => ?_⟩
      refine lc_it (walk_range (lo := 0) (n := b.toNat)) (fun j Hi => Same H6 Hi ∧ j ≤ b.toNat ∧ ∃ zs : List (Addr × Int × Str), Hi D2 = some (.lst (zs.map fun z => V.ref z.1)) ∧ (∀ z ∈ zs, Hi z.1 = some (.tup (pv2 z.2)) ∧ Fq z.2) ∧ zs.length = j)
        ⟨Same.upd nD2, Nat.zero_le _, [], upd_same, (fun _ h => nomatch h), rfl⟩ (fun _ _ _ _ => trivial) ?_ ?_
      · rintro j x Hi Hj hj ⟨sj, _, zs, hD, hz, hzl⟩ ⟨rfl, hx⟩
        replace hx : x = V.int j := hx.trans (by show V.int (0 + (j : Int)) = _; rw [Int.zero_add])
        subst hx
        refine ⟨rfl, ?_⟩
        refine ⟨_, rfl, _, rfl, 1, rfl, ln, _, _, .str lm, rfl, rfl, SqL.of (sj _ _ hln6), hlm, (by show 2 ≤ sizeLine; decide), fun q Hk sk hq => ?_⟩
        have hDk := sk _ _ hD
        refine ⟨_, hDk, by rw [List.length_map, sizeLine_eq]; omega, fun c o hc => ?_, by omega, zs ++ [(q, ((j : Int), lm))], by rw [upd_same, List.map_append]; rfl, fun z hzm => ?_, by rw [List.length_append, hzl]; rfl⟩
        · rw [upd_ne (ne_of_none hc nD2)]
          exact sk _ _ (sj c o hc)
        · rcases List.mem_append.mp hzm with hzm | hzm
          · have hk2 := sk _ _ (hz z hzm).1
            exact ⟨by rw [upd_ne (ne_tl hk2 hDk)]; exact hk2, (hz z hzm).2⟩
          · rw [List.mem_singleton.mp hzm]
            exact ⟨by rw [upd_ne (ne_tl hq hDk)]; exact hq, by show (0 : Int) ≤ (j : Int); omega, by show (j : Int) ≤ 10; omega, nok _ lmin⟩
      rintro H7 ⟨s7, _, ys, hD7, hy7, yl7⟩
      refine ⟨D, D2, _, _, rfl, rfl, s7 _ _ hD6, hD7, by rw [List.length_map, List.length_map, sizeLine_eq]; omega, fun m nm => ?_⟩
      have s8 : Same H7 (upd H7 m (.lst ((zs.map fun z => V.ref z.1) ++ (ys.map fun z => V.ref z.1)))) := Same.upd nm
      obtain ⟨as, has, hm8, hla⟩ : ∃ as : List (Addr × Int × Str), (∀ z ∈ as, (upd H7 m (.lst ((zs.map fun z => V.ref z.1) ++ (ys.map fun z => V.ref z.1)))) z.1 = some (.tup (pv2 z.2)) ∧ Fq z.2) ∧ (upd H7 m (.lst ((zs.map fun z => V.ref z.1) ++ (ys.map fun z => V.ref z.1)))) m = some (.lst (as.map fun z => V.ref z.1)) ∧ as.length ≤ 20 := by
        refine ⟨zs ++ ys, fun z hz => ?_, by rw [upd_same, List.map_append], by rw [List.length_append]; omega⟩
        rcases List.mem_append.mp hz with h | h
        · exact ⟨s8 _ _ (s7 _ _ (hz6 z h).1), (hz6 z h).2⟩
        · exact ⟨s8 _ _ (hy7 z h).1, (hy7 z h).2⟩
      have s58 := (s6.trans s7).trans s8
      generalize upd H7 m (.lst ((zs.map fun z => V.ref z.1) ++ (ys.map fun z => V.ref z.1))) = H8 at s8 has hm8 s58
      clear hD6 hz6 zl6 hD7 hy7 yl7 s6 s7 s8 nD nD2 nm
      refine ⟨_, rfl, m, rfl, ⟨_, SqL.of hm8⟩, fun D3 nD3 => ?_⟩
      refine lc_it (walk_list (K := K) (a := m) (xs := as.map fun z => V.ref z.1)) (fun j Hi => Same H8 Hi ∧ ∃ ws : List (Addr × Addr × (Int × Str)), Hi D3 = some (.lst (ws.map fun z => V.ref z.1)) ∧ (∀ z ∈ ws, (Hi z.1 = some (.tup [.ref z.2.1, .bl true]) ∧ Hi z.2.1 = some (.tup (pv2 z.2.2))) ∧ Fq z.2.2) ∧ ws.length = j)
        ⟨Same.upd nD3, [], upd_same, (fun _ h => nomatch h), rfl⟩ (fun j Hi _ q => SqL.of (q.1 _ _ hm8)) ?_ ?_
      · rintro j x Hi Hj hj ⟨sj, ws, hD, hw, hwl⟩ ⟨rfl, hx⟩
        rw [List.length_map] at hj
        rw [List.getElem?_map] at hx
        obtain ⟨z, hzj, rfl⟩ := Option.map_eq_some_iff.mp hx
        have zin := List.mem_of_getElem? hzj
        refine ⟨rfl, ?_⟩
        refine ⟨_, rfl, (by show 2 ≤ sizeLine; decide), fun q Hk sk hq => ?_⟩
        have hDk := sk _ _ hD
        have zk := sk _ _ (sj _ _ (has z zin).1)
        refine ⟨_, hDk, by rw [List.length_map, sizeLine_eq]; omega, fun c o hc => ?_, ws ++ [(q, z.1, z.2)], by rw [upd_same, List.map_append]; rfl, fun y hy => ?_, by rw [List.length_append, hwl]; rfl⟩
        · rw [upd_ne (ne_of_none hc nD3)]
          exact sk _ _ (sj c o hc)
        · rcases List.mem_append.mp hy with hy | hy
          · have h1 := sk _ _ (hw y hy).1.1
            have h2 := sk _ _ (hw y hy).1.2
            exact ⟨⟨by rw [upd_ne (ne_tl h1 hDk)]; exact h1, by rw [upd_ne (ne_tl h2 hDk)]; exact h2⟩, (hw y hy).2⟩
          · rw [List.mem_singleton.mp hy]
            exact ⟨⟨by rw [upd_ne (ne_tl hq hDk)]; exact hq, by rw [upd_ne (ne_tl zk hDk)]; exact zk⟩, (has z zin).2⟩
      · rintro Hi ⟨si, ws, hD, hw, hwl⟩
        rw [List.length_map] at hwl
        refine ⟨D3, ws, rfl, SqL.of hD, fun z hz => (hw z hz).1, by omega, fun dd ndd => ?_⟩
        have kin := (KeysIn.nil (S := Fq)).merge (.bl true) (L := ws.map fun z => z.2.2) fun x hx => by
          obtain ⟨z, hz, rfl⟩ := List.mem_map.mp hx
          exact (hw z hz).2
        rw [List.map_map, List.length_map] at kin
        obtain ⟨ps, k1, k2, k3⟩ := kin.ex
        refine ⟨dd, _, ps, rfl, upd_same, k1, fun us l hp hu' nl => ?_⟩
        refine ⟨l, _, rfl, .inl ⟨SqL.of upd_same, fun q nq => ?_⟩⟩
        have sdd : Same Hi (upd Hi dd (.dT (mergeT [] (ws.map fun z => (pk z.2.2, V.bl true))))) := Same.upd ndd
        have sll : Same (upd Hi dd (.dT (mergeT [] (ws.map fun z => (pk z.2.2, V.bl true))))) (upd (upd Hi dd (.dT (mergeT [] (ws.map fun z => (pk z.2.2, V.bl true))))) l (.lst (us.map fun z => V.ref z.1))) := Same.upd nl
        have s5l := ((s58.trans si).trans sdd).trans sll
        have hul : ∀ z ∈ us, (upd (upd Hi dd (.dT (mergeT [] (ws.map fun z => (pk z.2.2, V.bl true))))) l (.lst (us.map fun z => V.ref z.1))) z.1 = some (.tup (pv2 z.2)) := fun z hz => sll _ _ (hu' z hz)
        generalize upd (upd Hi dd (.dT (mergeT [] (ws.map fun z => (pk z.2.2, V.bl true))))) l (.lst (us.map fun z => V.ref z.1)) = H10 at s5l hul nq
        have sq : Same H10 (upd H10 q (.tup (us.map fun z => V.ref z.1))) := Same.upd nq
        have Cq := C5.same (s5l.trans sq) (Nat.le_refl _)
        have dq : DX w p (TupS S2 20) (upd H10 q (.tup (us.map fun z => V.ref z.1))) (.ref q) :=
          ⟨_, dx_new Cq upd_same (dx_zs fun z hz => tup_off Cq (sq _ _ (hul z hz))), _, rfl, fun x hx => by
            obtain ⟨y, hy, rfl⟩ := List.mem_map.mp hx
            obtain ⟨z, hz, rfl⟩ := List.mem_map.mp hy
            exact s2_pair (k2 _ (hp.mem_iff.mp (List.mem_map.mpr ⟨z, hz, rfl⟩))), by
            have := hp.length_eq
            rw [List.length_map] at this ⊢
            rw [List.length_map]; omega⟩
        generalize upd H10 q (.tup (us.map fun z => V.ref z.1)) = H11 at sq Cq dq
        refine ⟨_, rfl, p, pc, 2, _, rfl, by decide, by decide, Cq, by omega, fun i H12 i0' i1' b12 C12 => ?_⟩
        refine ⟨_, _, rfl, rfl, _, rfl, S2, 20, _, C12, dq.but b12, fun v3 Hd sd d3 => ?_⟩
        exact k _ _ (b05.trans (((But.of (s5l.trans sq)).trans b12).trans (But.of sd))) (C12.same sd (by omega)) (d3.up fun d h => by
          obtain ⟨ds, rfl, h1, h2⟩ := h
          exact sr_tup h1 (by omega))
    have dtp5 : DX w p (TupS S1 2) H5 (.ref pr) := ⟨_, dpr5, _, rfl, fun x hx => by
      rcases List.mem_cons.mp hx with rfl | hx
      · exact s1_int fq.1 fq.2.1
      · rw [List.mem_singleton.mp hx]; exact s1_str fq.2.2, Nat.le_refl _⟩
    -- pair + (0,)
    refine ⟨_, rfl, (by show 1 ≤ sizeLine; decide), fun c Ha sa hc => ?_⟩
    have Ca := C5.same sa (Nat.le_refl _)
    refine ⟨S1, 2, 1, _, Ca, dtp5.but (But.of sa), ⟨_, dx_new Ca hc (.cons (.int 0) .nil), _, rfl, fun x hx => by rw [List.mem_singleton.mp hx]; exact s1_int (by decide) (by decide), Nat.le_refl _⟩, by decide, fun v1 Hb sb d1 => ?_⟩
    have e1 : DX w p S2 Hb v1 := d1.up fun d h => by
      obtain ⟨ds, rfl, h1, h2⟩ := h
      exact s2_tup h1 h2
    have Cb := Ca.same sb (Nat.le_refl _)
    have sab := sa.trans sb
    -- list(pair)
    refine ⟨_, rfl, pr, _, rfl, .inr (SqT.of (sab _ _ hpr5)), fun l2 n2 => ?_⟩
    have s2' : Same Hb (upd Hb l2 (.lst (pv2 (dg, nm)))) := Same.upd n2
    have l2p : l2 ≠ p := pen_not Cb.any n2
    have e2 : DX w p S2 (upd Hb l2 (.lst (pv2 (dg, nm)))) (.ref l2) := ⟨.list [.int dg, .str nm], .lst (by rw [off_ne l2p]; exact upd_same) (.cons (.int _) (.cons (.str _) .nil)), s2_lst (fun d hd => by
      rcases List.mem_cons.mp hd with rfl | hd
      · exact s1_int fq.1 fq.2.1
      · rw [List.mem_singleton.mp hd]; exact s1_str fq.2.2) (by show 2 ≤ 3; decide)⟩
    have b5b : But p Hb (upd Hb l2 (.lst (pv2 (dg, nm)))) := But.of s2'
    have sac := sab.trans s2'
    have Cc := Cb.same s2' (Nat.le_refl _)
    have hprc := sac _ _ hpr5
    have e1c := e1.but b5b
    show tTupS _ _ (upd Hb l2 (.lst (pv2 (dg, nm)))) _
    generalize upd Hb l2 (.lst (pv2 (dg, nm))) = Hc at e2 b5b sac Cc hprc e1c
    -- (pair[1], pair[0])
    refine ⟨_, rfl, pr, _, 1, .str nm, rfl, rfl, SqT.of hprc, rfl, _, rfl, pr, _, 0, .int dg, rfl, rfl, SqT.of hprc, rfl, (by show 2 ≤ sizeLine; decide), fun c3 Hd sd h3 => ?_⟩
    have Cd := Cc.same sd (Nat.le_refl _)
    have e3 : DX w p S2 Hd (.ref c3) := ⟨_, dx_new Cd h3 (.cons (.str nm) (.cons (.int dg) .nil)), s2_tup (fun d hd => by
      rcases List.mem_cons.mp hd with rfl | hd
      · exact s1_str fq.2.2
      · rw [List.mem_singleton.mp hd]; exact s1_int fq.1 fq.2.1) (by show 2 ≤ 3; decide)⟩
    have hprd := sd _ _ hprc
    -- (odd, pair[1])
    refine ⟨_, rfl, p, pc, _, rfl, Cd, by omega, fun v4 He b4 Ce d4 => ?_⟩
    have hpre := b4 _ _ prp hprd
    refine ⟨_, rfl, pr, _, 1, .str nm, rfl, rfl, SqT.of hpre, rfl, (by show 2 ≤ sizeLine; decide), fun c4 Hf sf h4 => ?_⟩
    have Cf := Ce.same sf (Nat.le_refl _)
    obtain ⟨o4, x4, y4⟩ := d4
    have e4 : DX w p S2 Hf (.ref c4) := ⟨_, dx_new Cf h4 (.cons (x4.mono (off_of sf)) (.cons (.str nm) .nil)), s2_tup (fun d hd => by
      rcases List.mem_cons.mp hd with rfl | hd
      · exact odd_s1 _ y4
      · rw [List.mem_singleton.mp hd]; exact s1_str fq.2.2) (by show 2 ≤ 3; decide)⟩
    have hprf := sf _ _ hpre
    -- (pair[0], odd)
    refine ⟨_, rfl, pr, _, 0, .int dg, rfl, rfl, SqT.of hprf, rfl, ?_⟩
    refine ⟨_, rfl, p, pc, _, rfl, Cf, by omega, fun v5 Hg b5 Cg d5 => ?_⟩
    refine ⟨(by show 2 ≤ sizeLine; decide), fun c5 Hh sh h5 => ?_⟩
    have Ch := Cg.same sh (Nat.le_refl _)
    obtain ⟨o5, x5, y5⟩ := d5
    have e5 : DX w p S2 Hh (.ref c5) := ⟨_, dx_new Ch h5 (.cons (.int dg) (.cons (x5.mono (off_of sh)) .nil)), s2_tup (fun d hd => by
      rcases List.mem_cons.mp hd with rfl | hd
      · exact s1_int fq.1 fq.2.1
      · rw [List.mem_singleton.mp hd]; exact odd_s1 _ y5) (by show 2 ≤ 3; decide)⟩
    have b5h : But p H5 Hh := (((((But.of sac).trans (But.of sd)).trans b4).trans (But.of sf)).trans b5).trans (But.of sh)
    -- pair[:1]
    refine ⟨_, rfl, 1, rfl, S1, 2, _, Ch, dtp5.but b5h, fun v6 Hi si d6 => ?_⟩
    have Ci := Ch.same si (Nat.le_refl _)
    have e6 : DX w p S2 Hi v6 := d6.up fun d h => by
      obtain ⟨ds, rfl, h1, h2⟩ := h
      exact s2_tup h1 (by omega)
    refine ⟨(by show 6 ≤ sizeLine; decide), fun od Hj sj _ hod => ?_⟩
    have Cj := Ci.same sj (Nat.le_refl _)
    have b5j : But p H5 Hj := (b5h.trans (But.of si)).trans (But.of sj)
    have b3j : But p Hd Hj := ((((b4.trans (But.of sf)).trans b5).trans (But.of sh)).trans (But.of si)).trans (But.of sj)
    have b4j : But p Hf Hj := ((b5.trans (But.of sh)).trans (But.of si)).trans (But.of sj)
    have b6j : But p Hh Hj := (But.of si).trans (But.of sj)
    have itm : ∀ v ∈ [v1, .ref l2, .ref c3, .ref c4, .ref c5, v6], DX w p S2 Hj v := by
      intro v hv
      simp only [List.mem_cons, List.not_mem_nil, or_false] at hv
      rcases hv with rfl | rfl | rfl | rfl | rfl | rfl
      · exact e1c.but ((But.of sd).trans b3j)
      · exact e2.but ((But.of sd).trans b3j)
      · exact e3.but b3j
      · exact e4.but b4j
      · exact e5.but b6j
      · exact e6.but (But.of sj)
    have odp : od ≠ p := fun z => by
      obtain ⟨cells, x, y, g1, _⟩ := Cj.ex
      rw [z, g1] at hod; cases hod
    have tx := dtx5.but b5j
    have hodl : [v1, V.ref l2, .ref c3, .ref c4, .ref c5, v6].length = 6 := rfl
    generalize [v1, V.ref l2, .ref c3, .ref c4, .ref c5, v6] = vs at hod itm hodl
    have b0j := b05.trans b5j
    clear e1 e1c e2 e3 e4 e5 e6 d1 d6 hpr5 hprc hprd hpre hprf sab sac sa sb sd sf sh si sj s2' n2 hc h3 h4 h5 x4 x5 dtp5 dtx5 dpr5 hra5 hxs5 hx5 b5h b3j b4j b6j b4 b5 b5b Ca Cb Cc Cd Ce Cf Cg Ch Ci C5 b5j
    -- the row
    refine ⟨_, rfl, _, rfl, _, rfl, S2, 12, _, Cj, tx, fun w1 Ha sa da => ?_⟩
    have Ca := Cj.same sa (Nat.le_refl _)
    refine ⟨_, rfl, _, rfl, p, pc, 6, _, rfl, by decide, by decide, Ca, by omega, fun i Hb i0' i1' bb Cb => ?_⟩
    obtain ⟨v, vin, hv⟩ : ∃ v ∈ vs, atI vs i = some v := by
      obtain ⟨j, rfl⟩ : ∃ j : Nat, i = (j : Int) := ⟨i.toNat, by omega⟩
      have hj : j < vs.length := by omega
      exact ⟨vs[j], List.getElem_mem hj, atI_nat (List.getElem?_eq_getElem hj)⟩
    have bjb := (But.of (p := p) sa).trans bb
    refine ⟨od, _, _, v, rfl, rfl, SqL.of (bjb _ _ odp hod), hv, (by show 1 ≤ sizeLine; decide), fun c Hc sc hc => ?_⟩
    have Cc := Cb.same sc (Nat.le_refl _)
    obtain ⟨od', xd, yd⟩ := (itm v vin).but (bjb.trans (But.of sc))
    have dc : DX w p (TupS S2 1) Hc (.ref c) := ⟨_, dx_new Cc hc (.cons xd .nil), _, rfl, fun x hx => by rw [List.mem_singleton.mp hx]; exact yd, Nat.le_refl _⟩
    refine ⟨S2, 12, 1, _, Cc, da.but (bb.trans (But.of sc)), dc, by decide, fun w2 Hd sd d2 => ?_⟩
    have Cd := Cc.same sd (Nat.le_refl _)
    have bjd := (bjb.trans (But.of sc)).trans (But.of sd)
    refine ⟨_, rfl, _, rfl, _, rfl, p, pc, 2, _, rfl, by decide, by decide, Cd, by omega, fun i2 He i20 i21 be Ce => ?_⟩
    refine ⟨_, _, rfl, rfl, _, rfl, S2, 12, _, Ce, (tx.but bjd).but be, fun w3 Hf sf d3 => ?_⟩
    have Cf := Ce.same sf (Nat.le_refl _)
    refine ⟨S2, 13, 12, _, Cf, (d2.but be).but (But.of sf), d3, by decide, fun w4 Hg sg d4 => ?_⟩
    exact k _ _ ((((b0j.trans bjd).trans be).trans (But.of sf)).trans (But.of sg)) (Cf.same sg (by omega)) (d4.up fun d h => by
      obtain ⟨ds, rfl, h1, h2⟩ := h
      exact sr_tup h1 (by omega))
end
end My

set_option linter.all false
namespace My
open PySem PySem.Spec PyProof.Rows L2
/-! ### isinstance(x, (list, dict)) -/
def isLD : PyData → Bool
  | .list _ => true
  | .dict _ => true
  | _ => false
theorem kit_two {K : PySem.W.Frag} {t a b : String} {x y : Bool} (h1 : kitB t a = some x) (h2 : kitB t b = some y) : PySem.W.kitAny K (.type t) [.type a, .type b] = some (x || y) :=
  kitAny_cons (kit_ty h1) (fun e => by
    subst e
    exact kitAny_cons (kit_ty h2) (fun e => by subst e; exact kitAny_nil) (fun e => by subst e; rfl)) (fun e => by subst e; rfl)
theorem kit_LD {K : PySem.W.Frag} : ∀ d : PyData, PySem.W.kitAny K (.type (tyN d)) [.type "list", .type "dict"] = some (isLD d)
  | .none => kit_two (x := false) (y := false) (by decide +kernel) (by decide +kernel)
  | .bool _ => kit_two (t := "bool") (x := false) (y := false) (by decide +kernel) (by decide +kernel)
  | .int _ => kit_two (t := "int") (x := false) (y := false) (by decide +kernel) (by decide +kernel)
  | .str _ => kit_two (t := "str") (x := false) (y := false) (by decide +kernel) (by decide +kernel)
  | .list _ => kit_two (t := "list") (x := true) (y := false) (by decide +kernel) (by decide +kernel)
  | .tuple _ => kit_two (t := "tuple") (x := false) (y := false) (by decide +kernel) (by decide +kernel)
  | .dict _ => kit_two (t := "dict") (x := false) (y := true) (by decide +kernel) (by decide +kernel)
section
variable {X : Cx}
def rIsLD (w : World) : List V → Hp → VK → Prop := fun xs H Q => ∃ (v : V) (d : PyData) (tp : Addr), xs = [v, .ref tp] ∧ H tp = some (.tup [.ty "list", .ty "dict"]) ∧ Dx w H v d ∧ Q (.bl (isLD d)) H
theorem call_isLD : CallR X (.builtin "isinstance") (rIsLD X.w) := by
  intro pins s σ H xs us Q I r h
  obtain ⟨v, d, tp, rfl, hT, h, q⟩ := h
  by_cases c : ∃ ds, d = .dict ds
  · obtain ⟨ds, rfl⟩ := c
    cases h with
    | dct hg _ _ =>
      obtain ⟨u, u', rfl, ru, ru'⟩ := vals2 r
      cases (show u = Value.ref _ from ru)
      cases (show u' = Value.ref tp from ru')
      obtain ⟨od, _, es, ep, _, ho, hx, _⟩ := hg.raw I.hok
      obtain ⟨_, its, rv, o, g1, g2, n, g3⟩ := I.hok _ _ hT
      have ei : its = [Value.type "list", Value.type "dict"] := ClsV.all (.cons (.ty "list") (.cons (.ty "dict") .nil)) rv
      subst ei
      obtain ⟨oc, od2, dt, sl⟩ := o
      dsimp only at g2 g3
      subst g2 g3
      exact PySem.W.kia_tup (PySem.W.kitx_dict) I.kIn ⟨od, ho, hx.1⟩ g1 (kit_LD (.dict ds)) (fun z => nomatch z) fun tk => ⟨.bl _, H, I.tok tk, rfl, q⟩
  · exact call_isiT pins s σ H _ us Q I r ⟨v, tp, _, .type (tyN d), _, _, rfl, hT, .cons (.ty "list") (.cons (.ty "dict") .nil), h.tyx fun ds e => c ⟨ds, e⟩, kit_LD d, q⟩
/-! ### list(d.items()), d standing still or not -/
def tItemsR (te : TE) : TE := fun σ H Q => te σ H fun x H1 => ∃ (d : Addr) (kvs : List (Key × V)), x = .ref d ∧ Rd H1 d (.dK kvs) ∧
  ∀ (H2 : Hp) (l : Addr) (ts : List Addr), Same H1 H2 → H1 l = none → H2 l = some (.lst (ts.map V.ref)) → Paired (fun (a : Addr) (kv : Key × V) => H2 a = some (.tup [kV kv.1, kv.2])) ts kvs → Q (.ref l) H2
theorem pe_itemsR {e : Expr} {te : TE} {p a c pos : Pos} (calm : X.calm = true) (he : PE X e te) (gl : Gl X "list") (nm : X.mg "list" = none) (bt : bootBuiltins "list" = some (.type "list"))
    (h1 : attributeBase e "items" X.env (eval e X.env) = eval e X.env := by rfl) (h2 : (a.endLine == c.line) = true := by rfl)
    (h3 : starEach [.Call (.Attribute e "items" a) [] [] c] X.env = (false, eval (.Call (.Attribute e "items" a) [] [] c) X.env) :: starEach [] X.env := by rfl) :
    PE X (.Call (.Name "list" p) [.Call (.Attribute e "items" a) [] [] c] [] pos) (tItemsR te) := by
  refine ⟨fun pins s σ H Q I w => wpAny_Call_Name_kw (ld_blt I gl nm bt (PyProof.Rows.callWith_type1 ?_ h3 rfl))⟩
  rw [h3]
  refine Calls.spliced_cons (wpAny_Call_method (T := "dict") (id := "dict.items") h1 rfl h2 F.plainAttrs_dict F.slot_dict_items F.type_dict_items (thn (he.run pins s σ H _ I w) fun v s' w => ?_))
  obtain ⟨x, H1, J, r, d, kvs, rfl, rd, q⟩ := w
  cases (show v = Value.ref d from r)
  obtain ⟨z, m, vs, kv, dd⟩ := dk_rd J.hok rd
  obtain ⟨ep, at1⟩ := dd.dictAt
  have J1 : Inv X pins σ H1 { s' with heap := s'.heap.push { cls := .type "dict_items", data := .fields #[.ref d] } } := J.kept (t' := s'.toks) fun _ _ g => Heap.get?_push_of_some _ g
  refine ⟨dd.typeIs, dd.mapOf.noDict, ?_⟩
  refine method_meetsIn F.slot_dict_items F.entry_dict_items rfl (PySem.evalArgs_none ⟨rfl, dd.typeIs, F.args_dict_items_1 _, _, meets_dict_items (mixKind X.prog X.w) d m, ⟨vs, dd⟩, Calls.spliced_nil ?_⟩)
  refine PySem.W.kdx_call (knd := mixKind X.prog X.w) (kvs := vs) (ep := ep) (J.ok.hd calm) ⟨_, Heap.get?_push_size _ rfl, rfl, rfl⟩ (at1.push _) (by rw [← kv.length]; exact z) fun h' tk acc n as g1 g2 g3 g4 g5 => ?_
  obtain ⟨H2, k1, k2, _, _, k5, k6, J2⟩ := LiI.items_laid (tk := tk) J1 z kv g1 g2 g3 g4 g5
  exact ⟨.ref _, H2, J2, rfl, q H2 _ as k1 k2 k5 k6⟩
end
end My

set_option linter.all false
namespace My
open PySem PySem.Spec PyProof.Rows L2
/-! ### a book with a part otherwise -/
abbrev sBentB : Stmt := topS 23
abbrev SB : PyData → Prop := fun d => Sz 16700000 8 d ∧ FineB d
/-- a book whose dict stands still -/
structure Bkx (w : World) (p bk rr : Addr) (b : Int) (ns : List Str) (rws : List (List (Int × Str))) (kvs : List (Key × V)) (H : Hp) : Prop where
  hb : off H p bk = some (.tup [.int b, .ref rr])
  hr : ∃ od, off H p rr = some (.frz od (.dK kvs))
  df : DF w (off H p) rr (kvvs kvs)
  keys : kvs.map (·.1) = ns.map Sum.inr
  vals : DxAll w (off H p) (kvs.map (·.2)) (rws.map rowD)
  ok : BookOk b ns rws
section
variable {w : World} {p bk rr : Addr} {b : Int} {ns : List Str} {rws : List (List (Int × Str))} {kvs : List (Key × V)} {H H' : Hp}
theorem Bkx.but (h : Bkx w p bk rr b ns rws kvs H) (e : But p H H') : Bkx w p bk rr b ns rws kvs H' :=
  ⟨off_but e _ _ h.hb, let ⟨od, g⟩ := h.hr; ⟨od, off_but e _ _ g⟩, h.df.mono (off_but e), h.keys, h.vals.mono (off_but e), h.ok⟩
theorem Bkx.rd (h : Bkx w p bk rr b ns rws kvs H) : Rd H rr (.dK kvs) := let ⟨od, g⟩ := h.hr; .inr ⟨od, off_same _ _ g⟩
theorem Bkx.strs (h : Bkx w p bk rr b ns rws kvs H) : (kvs.map fun kv => kV kv.1) = ns.map V.str := by
  have := congrArg (List.map kV) h.keys
  rw [List.map_map, List.map_map] at this
  exact this
theorem Bkx.len (h : Bkx w p bk rr b ns rws kvs H) : kvs.length = ns.length := by
  have := congrArg List.length h.keys
  rwa [List.length_map, List.length_map] at this
end
theorem fq_in {b : Int} {ns : List Str} {q : Int × Str} (hb : b ≤ 10) (hn : ∀ x ∈ ns, NameOk x) (h : InB b ns q) : Fq q := ⟨h.1, by have := h.2.1; omega, hn _ h.2.2⟩
theorem rowD_eq (row : List (Int × Str)) : rowD row = .tuple (row.map pairT) := rfl
theorem strOk_name {x : Str} (h : NameOk x) : StrOk (.str x) := fun y e => by
  cases e
  exact ⟨by have := h.hi; rw [sizeLine_eq]; omega, strOk_let h.lets⟩
/-- what is in a dict that is being made -/
def Fa (w : World) (G : Hp) (kv : List Kvv) : Prop := ∀ x ∈ kv, (∃ d, Dx w G x.2.1 d ∧ S1 d ∧ StrOk d) ∧ ∃ d, Dx w G x.2.2 d ∧ SR d
theorem Fa.mono {w : World} {G G' : Hp} {kv : List Kvv} (h : Fa w G kv) (e : Same G G') : Fa w G' kv := fun x hx => by
  obtain ⟨⟨d, h1, h2⟩, d2, h3, h4⟩ := h x hx
  exact ⟨⟨d, h1.mono e, h2⟩, d2, h3.mono e, h4⟩
theorem Fa.data {w : World} {G : Hp} : ∀ {kv : List Kvv}, Fa w G kv → ∃ ds : List (PyData × PyData), DxAll w G (kv.map fun x => x.2.1) (ds.map (·.1)) ∧ DxAll w G (kv.map fun x => x.2.2) (ds.map (·.2)) ∧ (∀ d ∈ ds, (S1 d.1 ∧ StrOk d.1) ∧ SR d.2) ∧ ds.length = kv.length
  | [], _ => ⟨[], .nil, .nil, (fun _ h => nomatch h), rfl⟩
  | x :: kv, h => by
    obtain ⟨ds, a, b, c, l⟩ := Fa.data (kv := kv) fun y hy => h y (List.mem_cons_of_mem _ hy)
    obtain ⟨⟨d, h1, h2⟩, d2, h3, h4⟩ := h x List.mem_cons_self
    exact ⟨(d, d2) :: ds, .cons h1 a, .cons h3 b, fun y hy => by
      rcases List.mem_cons.mp hy with rfl | hy
      · exact ⟨h2, h4⟩
      · exact c y hy, by rw [List.length_cons, List.length_cons, l]⟩
theorem Fa.put {w : World} {G : Hp} {kv : List Kvv} {k : NestedKey} {i v : V} (h : Fa w G kv) (hi : ∃ d, Dx w G i d ∧ S1 d ∧ StrOk d) (hv : ∃ d, Dx w G v d ∧ SR d) : Fa w G (putN kv k i v) := by
  unfold putN
  split
  · intro x hx
    obtain ⟨y, hy, rfl⟩ := List.mem_map.mp hx
    by_cases c : y.1 = k
    · rw [if_pos c]; exact ⟨(h y hy).1, hv⟩
    · rw [if_neg c]; exact h y hy
  · intro x hx
    rcases List.mem_append.mp hx with hx | hx
    · exact h x hx
    · rw [List.mem_singleton.mp hx]; exact ⟨hi, hv⟩
theorem Fa.dict {w : World} {G : Hp} {kv : List Kvv} {a c : Addr} {b : Int} (h : Fa w G kv) (l : kv.length ≤ 10) (d : DF w G a kv) (b0 : 0 ≤ b) (b1 : b ≤ 10) (hc : G c = some (.tup [.int b, .ref a])) : ∃ d, Dx w G (.ref c) d ∧ SB d := by
  obtain ⟨ds, h1, h2, h3, h4⟩ := h.data
  have z : Sz 8100000 6 (.dict ds) := (sz_dct (B := 400000) (k := 5) (n := 10) (fun d hd => ⟨(h3 d hd).1.1.up (by decide) (by decide), (h3 d hd).2⟩) (by omega)).up (by decide) (by decide)
  refine ⟨.tuple [.int b, .dict ds], .tup hc (.cons (.int _) (.cons (.dct d h1 h2) .nil)), (sz_tup (B := 8100000) (k := 6) (n := 2) (fun d hd => ?_) (by show 2 ≤ 2; decide)).up (by decide) (by decide), fun b' ds' e k hk => ?_⟩
  · rcases List.mem_cons.mp hd with rfl | hd
    · exact (s1_int b0 b1).up (by decide) (by decide)
    · rw [List.mem_singleton.mp hd]; exact z
  · injection e with e
    injection e with _ e
    injection e with e
    injection e with e
    subst e
    obtain ⟨d, hd, rfl⟩ := List.mem_map.mp hk
    exact (h3 d hd).1.2
/-- the same while its keys are names -/
def FaK (w : World) (G : Hp) (kv : List (Key × V)) : Prop := ∀ x ∈ kv, (∃ d, Dx w G (kV x.1) d ∧ S1 d ∧ StrOk d) ∧ ∃ d, Dx w G x.2 d ∧ SR d
theorem FaK.fa {w : World} {G : Hp} {kv : List (Key × V)} (h : FaK w G kv) : Fa w G (kvvs kv) := fun x hx => by
  obtain ⟨y, hy, rfl⟩ := List.mem_map.mp hx
  exact h y hy
theorem FaK.put {w : World} {G : Hp} {kv : List (Key × V)} {k : Key} {v : V} (h : FaK w G kv) (hi : ∃ d, Dx w G (kV k) d ∧ S1 d ∧ StrOk d) (hv : ∃ d, Dx w G v d ∧ SR d) : FaK w G (putK kv k v) := by
  unfold putK
  split
  · intro x hx
    obtain ⟨y, hy, rfl⟩ := List.mem_map.mp hx
    by_cases c : y.1 = k
    · rw [if_pos c]; exact ⟨(h y hy).1, hv⟩
    · rw [if_neg c]; exact h y hy
  · intro x hx
    rcases List.mem_append.mp hx with hx | hx
    · exact h x hx
    · rw [List.mem_singleton.mp hx]; exact ⟨hi, hv⟩
theorem putK_le {kv : List (Key × V)} {k : Key} {v : V} : (putK kv k v).length ≤ kv.length + 1 := by
  unfold putK
  split
  · rw [List.length_map]; omega
  · simp
theorem FaK.drop {w : World} {G : Hp} {kv : List (Key × V)} {k : Key} (h : FaK w G kv) : FaK w G (dropK kv k) := fun x hx => h x (List.mem_filter.mp hx).1
theorem kvvs_len (kv : List (Key × V)) : (kvvs kv).length = kv.length := by unfold kvvs; rw [List.length_map]
theorem s1_sm {i : Int} (h : i.natAbs ≤ 1000) : S1 (.int i) := by
  have hl : i.natAbs.log2 < 1920 := Nat.lt_trans (PySem.Flt.log2_lt_of (k := 1900) (by decide) (Nat.lt_of_le_of_lt h (by decide))) (by decide)
  exact ⟨by simp only [PyData.showable]; exact decide_eq_true hl, Nat.le_trans (int_text_len_1921 hl) (by decide), by simp only [PyData.depth]; omega⟩
/-! data hold no dict that may change -/
mutual
theorem Dx.offK {w : World} {G : Hp} {a : Addr} {kv : List (Key × V)} (e : G a = some (.dK kv)) : ∀ {v : V} {d : PyData}, Dx w G v d → Dx w (off G a) v d
  | _, _, .non => .non
  | _, _, .bl b => .bl b
  | _, _, .int i => .int i
  | _, _, .str x => .str x
  | _, _, .lst h t => .lst (by rw [off_ne fun z => by rw [z, e] at h; cases h]; exact h) (DxAll.offK e t)
  | _, _, .tup h t => .tup (by rw [off_ne fun z => by rw [z, e] at h; cases h]; exact h) (DxAll.offK e t)
  | _, _, .dct h t u => .dct (by
      obtain ⟨od, o', es, ep, g, _⟩ := id h
      exact df_leaf h g (by rw [off_ne fun z => by rw [z, e] at g; cases g]; exact g) fun x hx => (h.keyv x hx).up fun c xs q => by rw [off_ne fun z => by rw [z, e] at q; cases q]; exact q) (DxAll.offK e t) (DxAll.offK e u)
theorem DxAll.offK {w : World} {G : Hp} {a : Addr} {kv : List (Key × V)} (e : G a = some (.dK kv)) : ∀ {vs : List V} {ds : List PyData}, DxAll w G vs ds → DxAll w (off G a) vs ds
  | _, _, .nil => .nil
  | _, _, .cons h t => .cons (Dx.offK e h) (DxAll.offK e t)
end
theorem off_skip {H H' : Hp} {p a : Addr} (n : H a = none) (b : But p H H') : Same (off H p) (off (off H' p) a) := fun c o h => by
  have g := off_but b c o h
  rw [off_ne (fun z => by
    rw [z] at h
    by_cases y : a = p
    · rw [y, off_at] at h; cases h
    · rw [off_ne y, n] at h; cases h)]
  exact g
theorem off_two {H H' : Hp} {p a : Addr} (h : ∀ c o, c ≠ p → c ≠ a → H c = some o → H' c = some o) : Same (off (off H p) a) (off (off H' p) a) := fun c o g => by
  by_cases y : c = a
  · rw [y, off_at] at g; cases g
  · by_cases z : c = p
    · rw [off_ne y, z, off_at] at g; cases g
    · rw [off_ne y, off_ne z] at g ⊢; exact h c o z y g
theorem off_more {H H' : Hp} {p a : Addr} (h : ∀ c o, c ≠ p → c ≠ a → H c = some o → H' c = some o) : Same (off (off H p) a) (off H' p) := (off_two h).trans off_same
theorem key_odd {w : World} {G : Hp} {v : V} {d : PyData} (h : Dx w G v d) (io : d ∈ oddsD) (n : isLD d = false) : ∃ k, KeyV G k v ∧ k.depth ≤ 8 := by
  cases h with
  | non => exact ⟨_, .non, by simp only [NestedKey.depth]; omega⟩
  | bl b => exact ⟨_, .bl b, by simp only [NestedKey.depth]; omega⟩
  | int i => exact ⟨_, .int i, by simp only [NestedKey.depth]; omega⟩
  | str x => exact ⟨_, .str x, by simp only [NestedKey.depth]; omega⟩
  | lst _ _ => cases n
  | dct _ _ _ => cases n
  | @tup a xs ds h t =>
    have c : ds = [] ∨ ds = [.int 0] := by
      unfold oddsD at io
      simp only [List.mem_cons, List.not_mem_nil, or_false, PyData.tuple.injEq, reduceCtorEq, false_or, or_assoc] at io
      exact io
    rcases c with rfl | rfl
    · cases t
      exact ⟨_, .tup h .nil, by decide⟩
    · cases t with
      | cons q r =>
        cases r
        cases q
        exact ⟨_, .tup h (.cons (.int 0) .nil), by decide⟩
theorem strOk_odd : ∀ d ∈ oddsD, StrOk d := by
  intro d hd x e
  subst e
  unfold oddsD at hd
  simp only [List.mem_cons, List.not_mem_nil, or_false, PyData.str.injEq, reduceCtorEq, false_or] at hd
  rcases hd with rfl | rfl | rfl | rfl | rfl
  all_goals exact ⟨by rw [sizeLine_eq]; decide +kernel, by decide +kernel⟩
section
variable {w : World} {p bk rr : Addr} {b : Int} {ns : List Str} {rws : List (List (Int × Str))} {kvs : List (Key × V)} {H H' : Hp}
theorem dx_strs {G : Hp} : ∀ l : List Str, DxAll w G (l.map V.str) (l.map PyData.str)
  | [] => .nil
  | x :: l => .cons (.str x) (dx_strs l)
def rowsT (ns : List Str) (rws : List (List (Int × Str))) : List (PyData × PyData) := (ns.zip rws).map fun z => (PyData.str z.1, rowD z.2)
theorem rowsT_fst (B : BookOk b ns rws) : (rowsT ns rws).map (·.1) = ns.map PyData.str := by
  unfold rowsT
  rw [List.map_map]
  have h := congrArg (List.map PyData.str) (List.map_fst_zip (l₁ := ns) (l₂ := rws) (by have := B.len; omega))
  rwa [List.map_map] at h
theorem rowsT_snd (B : BookOk b ns rws) : (rowsT ns rws).map (·.2) = rws.map rowD := zipVals B.len
theorem Bkx.rows (S : Bkx w p bk rr b ns rws kvs H) : Dx w (off H p) (.ref rr) (.dict (rowsT ns rws)) := by
  refine .dct S.df ?_ ?_
  · rw [rowsT_fst S.ok]
    have e : (kvvs kvs).map (fun x => x.2.1) = ns.map V.str := by
      rw [← S.strs]; unfold kvvs; rw [List.map_map]; rfl
    rw [e]; exact dx_strs ns
  · rw [rowsT_snd S.ok]
    have e : (kvvs kvs).map (fun x => x.2.2) = kvs.map (·.2) := by unfold kvvs; rw [List.map_map]; rfl
    rw [e]; exact S.vals
theorem Bkx.book (S : Bkx w p bk rr b ns rws kvs H) : Dx w (off H p) (.ref bk) (bookD b ns rws) := .tup S.hb (.cons (.int _) (.cons S.rows .nil))
theorem sz_rows (B : BookOk b ns rws) : Sz 1000000 3 (.dict (rowsT ns rws)) := (sz_dct (B := 60000) (k := 2) (n := 8) (fun d hd => by
  unfold rowsT at hd
  obtain ⟨z, hz, rfl⟩ := List.mem_map.mp hd
  exact ⟨(Sz.shw (shw_str (B.ok _ (List.of_mem_zip hz).1))).up (by decide) (by decide), Sz.shw (shw_row B.b1 B.ok (B.rows _ (List.of_mem_zip hz).2) (by decide))⟩) (by unfold rowsT; rw [List.length_map, List.length_zip]; have := B.n8; omega)).up (by decide) (by decide)
theorem fine_rows (B : BookOk b ns rws) {d : PyData} : FineB (.tuple [d, .dict (rowsT ns rws)]) := fun b' ds' e k hk => by
  injection e with e
  injection e with _ e
  injection e with e
  injection e with e
  subst e
  rw [rowsT_fst B] at hk
  obtain ⟨x, hx, rfl⟩ := List.mem_map.mp hk
  exact strOk_name (B.ok x hx)
theorem Bkx.row (S : Bkx w p bk rr b ns rws kvs H) {x : Str} (h : x ∈ ns) : ∃ v row, valV kvs (Sum.inr x) = some v ∧ Dx w (off H p) v (rowD row) ∧ RowIn b ns 12 row := by
  have h1 : (Sum.inr x : Key) ∈ kvs.map (·.1) := by rw [S.keys]; exact List.mem_map.mpr ⟨x, h, rfl⟩
  have h2 : ∃ v, valV kvs (Sum.inr x) = some v := by
    have := valV_any (Sum.inr x : Key) kvs
    obtain ⟨kv, m, e⟩ := List.mem_map.mp h1
    rw [List.any_eq_true.mpr ⟨kv, m, decide_eq_true e⟩] at this
    exact Option.isSome_iff_exists.mp this.symm
  obtain ⟨v, hv⟩ := h2
  have hm : v ∈ kvs.map (·.2) := by
    unfold valV at hv
    obtain ⟨kv, m, e⟩ := Option.map_eq_some_iff.mp hv
    exact List.mem_map.mpr ⟨kv, List.mem_of_find?_eq_some m, e⟩
  obtain ⟨j, hj⟩ := List.mem_iff_getElem?.mp hm
  obtain ⟨d, e1, e2⟩ := S.vals.get hj
  rw [List.getElem?_map] at e1
  obtain ⟨row, e3, rfl⟩ := Option.map_eq_some_iff.mp e1
  exact ⟨v, row, hv, e2, S.ok.rows row (List.mem_of_getElem? e3)⟩
theorem rowf_in (B : BookOk b ns rws) {row : List (Int × Str)} (h : RowIn b ns 12 row) : RowF (rowD row) := ⟨row, rfl, h.len, fun q hq => fq_in B.b1 B.ok (h.mem q hq)⟩
theorem Bkx.fak (S : Bkx w p bk rr b ns rws kvs H) : FaK w (off H p) kvs := by
  intro x hx
  have hk : x.1 ∈ kvs.map (·.1) := List.mem_map.mpr ⟨x, hx, rfl⟩
  rw [S.keys] at hk
  obtain ⟨nm, hn, e⟩ := List.mem_map.mp hk
  refine ⟨⟨.str nm, by rw [← e]; exact .str nm, s1_str (S.ok.ok nm hn), strOk_name (S.ok.ok nm hn)⟩, ?_⟩
  have hm : x.2 ∈ kvs.map (·.2) := List.mem_map.mpr ⟨x, hx, rfl⟩
  obtain ⟨j, hj⟩ := List.mem_iff_getElem?.mp hm
  obtain ⟨d, e1, e2⟩ := S.vals.get hj
  rw [List.getElem?_map] at e1
  obtain ⟨row, e3, rfl⟩ := Option.map_eq_some_iff.mp e1
  exact ⟨_, e2, (Sz.shw (shw_row S.ok.b1 S.ok.ok (S.ok.rows row (List.mem_of_getElem? e3)) (by decide))).up (by decide) (by decide)⟩
end
theorem FaK.mono {w : World} {G G' : Hp} {kv : List (Key × V)} (h : FaK w G kv) (e : Same G G') : FaK w G' kv := fun x hx => by
  obtain ⟨⟨d, h1, h2⟩, d2, h3, h4⟩ := h x hx
  exact ⟨⟨d, h1.mono e, h2⟩, d2, h3.mono e, h4⟩
theorem FaK.offK {w : World} {G : Hp} {a : Addr} {kv kv' : List (Key × V)} (h : FaK w G kv) (e : G a = some (.dK kv')) : FaK w (off G a) kv := fun x hx => by
  obtain ⟨⟨d, h1, h2⟩, d2, h3, h4⟩ := h x hx
  exact ⟨⟨d, h1.offK e, h2⟩, d2, h3.offK e, h4⟩
theorem pen_agree {p c a : Addr} {t u : Nat} {H H' : Hp} (P : PenC H p c t) (h1 : a ≠ p) (h2 : a ≠ c) (g : ∀ b, b ≠ a → H' b = H b) (l : t ≤ u) : PenC H' p c u := by
  obtain ⟨cells, x, y, e1, e2, e3, e4⟩ := P.ex
  exact ⟨cells, x, y, by rw [g p h1.symm]; exact e1, by rw [g c h2.symm]; exact e2, e3, by omega⟩
theorem items_dx {w : World} {p pc : Addr} {t : Nat} {H : Hp} (P : PenC H p pc t) : ∀ {ts : List Addr} {kv : List (Key × V)}, Paired (fun (a : Addr) (x : Key × V) => H a = some (.tup [kV x.1, x.2])) ts kv → FaK w (off H p) kv → ∃ ds, DxAll w (off H p) (ts.map V.ref) ds ∧ (∀ d ∈ ds, Sz 800007 6 d) ∧ ds.length = kv.length
  | _, _, .nil, _ => ⟨[], .nil, (fun _ h => nomatch h), rfl⟩
  | _, _, .cons h r, f => by
    obtain ⟨ds, a, b, c⟩ := items_dx P r fun y hy => f y (List.mem_cons_of_mem _ hy)
    obtain ⟨⟨d, h1, h2, _⟩, d2, h3, h4⟩ := f _ List.mem_cons_self
    refine ⟨.tuple [d, d2] :: ds, .cons (dx_new P h (.cons h1 (.cons h3 .nil))) a, fun y hy => ?_, by rw [List.length_cons, List.length_cons, c]⟩
    rcases List.mem_cons.mp hy with rfl | hy
    · exact (sz_tup (B := 400000) (k := 5) (n := 2) (fun z hz => by
        rcases List.mem_cons.mp hz with rfl | hz
        · exact h2.up (by decide) (by decide)
        · rw [List.mem_singleton.mp hz]; exact h4) (by show 2 ≤ 2; decide)).up (by decide) (by decide)
    · exact b y hy
theorem fine_no {d : PyData} (h : ∀ b ds, d ≠ .tuple [b, .dict ds]) : FineB d := fun b ds e => absurd e (h b ds)
/-- the dict at fa while it is being changed -/
structure Mk (w : World) (p pc fa : Addr) (t : Nat) (H4 Ho : Hp) : Prop where
  pen : PenC Ho p pc t
  ag : ∀ c o, c ≠ p → c ≠ fa → H4 c = some o → Ho c = some o
  fd : (∃ kv, Ho fa = some (.dK kv) ∧ kv.length ≤ 10 ∧ FaK w (off (off Ho p) fa) kv) ∨ ∃ kv, DN w Ho fa kv ∧ kv.length ≤ 10 ∧ Fa w (off (off Ho p) fa) kv
theorem qs_at {i : Int} (h0 : 0 ≤ i) (h1 : i < 7) : ∃ c, atI ("qrstuvw" : Str).cps.toList i = some c ∧ 97 ≤ c ∧ c ≤ 122 := by
  have h : i = 0 ∨ i = 1 ∨ i = 2 ∨ i = 3 ∨ i = 4 ∨ i = 5 ∨ i = 6 := by omega
  rcases h with rfl | rfl | rfl | rfl | rfl | rfl | rfl <;> exact ⟨_, rfl, by decide, by decide⟩
theorem name_one {c : Nat} (h0 : 97 ≤ c) (h1 : c ≤ 122) : NameOk ⟨#[c]⟩ := ⟨fun x hx => by
  have : x = c := List.mem_singleton.mp hx
  omega, by show 1 ≤ 1; decide, by show 1 ≤ 8; decide⟩
def spBentB (w : World) : Sp := fun vs H Q _ => ∃ (p pc bk rr : Addr) (b : Int) (ns : List Str) (rws : List (List (Int × Str))) (kvs : List (Key × V)) (t : Nat), vs = [.ref p, .ref bk] ∧ PenC H p pc t ∧ t + 40 < 2 ^ 29 ∧ Bkx w p bk rr b ns rws kvs H ∧ ns.length ≤ 6 ∧
  ∀ v H', But p H H' → PenC H' p pc (t + 20) → DX w p SB H' v → Q v H'
structure TxZ (mg : Str → Option Value) : Prop where
  len : mg "len" = none
  range : mg "range" = none
  dict : mg "dict" = none
  list : mg "list" = none
  isi : mg "isinstance" = none
section
variable {P : Program} {w : World} {K : PySem.W.Frag} {mg : Str → Option Value} {base : Heap}
theorem scBentB : FnScope ["pen", "book", "base", "rows", "names", "name", "found", "way", "some", "odd", "k"] ["pen", "book"] (defScope sBentB) := ⟨rfl, rfl, rfl, by decide +kernel, rfl, by decide +kernel, by decide +kernel⟩
theorem ok_bentb {f fT fO fB : Addr} {fd fdT fdO fdB : FuncData} (F : Fun K "_law_bent" "_law_bent" sBentB f fd) (T : TxZ mg)
    (FT : Fun K "_law_take" "_law_take" sTake fT fdT) (GT : FnOk P w K mg base CX0 2 fT fdT ["pen", "many"] spTakeC) (bT : Binds K fdT ["pen", "many"] []) (gT : mg "_law_take" = some (.ref fT))
    (FO : Fun K "_law_odd" "_law_odd" sOddW fO fdO) (GO : FnOk P w K mg base CX0 3 fO fdO ["pen"] (spOddW w)) (bO : Binds K fdO ["pen"] []) (gO : mg "_law_odd" = some (.ref fO))
    (FB : Fun K "_law_bent_row" "_law_bent_row" sBRow fB fdB) (GB : FnOk P w K mg base CX0 4 fB fdB ["pen", "base", "row", "names"] (spBRow w)) (bB : Binds K fdB ["pen", "base", "row", "names"] []) (gB : mg "_law_bent_row" = some (.ref fB)) :
    FnOk P w K mg base CX0 5 f fd ["pen", "book"] (spBentB w) := by
  refine F.ok scBentB (fun vs H Q E h => ?_) (fun cdv A outer s H vs Q E hr h => ?_)
  · obtain ⟨p, pc, bk, rr, b, ns, rws, kvs, t, rfl, _⟩ := h
    rfl
  · obtain ⟨p, pc, bk, rr, b, ns, rws, kvs, t, rfl, C, tt, S, n6, k⟩ := h
    have hr4 := hr
    have hr3 : Room 3 _ := hr.mono (by decide)
    have hr2 : Room 2 _ := hr.mono (by decide)
    have hu := hr.units
    have hu9 := Nat.lt_trans (Nat.add_lt_add_left (show 9 < 64 by decide) _) hr.units
    have hu1 := Nat.lt_trans (Nat.add_lt_add_left (show 1 < 64 by decide) _) hr.units
    refine ⟨_, (pss_cons (ps_asg (pv 1) (pg_tup (by rfl) (pgs_cons (pg_name (i := 2) scBentB.nd rfl (Or.inl rfl)) (pgs_cons (pg_name (i := 3) scBentB.nd rfl (Or.inl rfl)) pgs_nil))))
      (pss_cons (ps_set (i := 4) scBentB.nd rfl (Or.inl rfl) (pe_callTy (call_listD rfl) (by rfl) T.list boot_list (pa_cons (pv 3) pa_nil)))
      (pss_cons (ps_set (i := 5) scBentB.nd rfl (Or.inl rfl) (pe_ix ix_list (pv 4) (pe_call GT hr2 (by rfl) gT FT.kp bT .nil pass0 (pa_cons (pv 0) (pa_cons (pe_callB call_len_seq (by rfl) T.len PySem.boot_len (pa_cons (pv 4) pa_nil)) pa_nil))) (fun _ _ => rfl)))
      (pss_cons (ps_set (i := 6) scBentB.nd rfl (Or.inl rfl) (pe_callTy call_dictD (by rfl) T.dict boot_dict (pa_cons (pv 3) pa_nil)))
      (pss_cons (ps_set (i := 7) scBentB.nd rfl (Or.inl rfl) (pe_call GT hr2 (by rfl) gT FT.kp bT .nil pass0 (pa_cons (pv 0) (pa_cons pe_int pa_nil))))
      (pss_cons (ps_if (pt_cmpR op_eq (pv 7) pe_int (nomark _)) (pss_cons (ps_set (i := 8) scBentB.nd rfl (Or.inl rfl) (pe_lstS (pa_cons (pv 3) (pa_cons (pe_tupS (pa_cons (pv 2) pa_nil)) (pa_cons (pe_tupS (pa_cons (pv 2) (pa_cons (pv 3) (pa_cons pe_int pa_nil)))) (pa_cons (pe_lstS (pa_cons (pv 2) (pa_cons (pv 3) pa_nil))) (pa_cons (pe_tupS (pa_cons (pv 3) (pa_cons (pv 2) pa_nil))) (pa_cons (pe_tupS (pa_cons (pv 2) (pa_cons (pe_itemsR rfl (pv 3) (by rfl) T.list boot_list) pa_nil))) pa_nil))))))))
      (pss_one (ps_ret (pe_ix ix_list (pv 8) (pe_call GT hr2 (by rfl) gT FT.kp bT .nil pass0 (pa_cons (pv 0) (pa_cons pe_int pa_nil))) (fun _ _ => rfl))))) pss_nil)
      (pss_cons (ps_if (pt_cmpR op_eq (pv 7) pe_int (nomark _)) (pss_one (ps_ret (pe_tupS (pa_cons (pe_ix ix_list (pe_lst (dxs_cons dx_int (dxs_cons dx_int (dxs_cons dx_int (dxs_cons dx_neg (dxs_cons dx_bl (dxs_cons dx_non (dxs_cons dx_str (dxs_cons dx_int (dxs_cons dx_int dxs_nil)))))))))) (pe_call GT hr2 (by rfl) gT FT.kp bT .nil pass0 (pa_cons (pv 0) (pa_cons pe_int pa_nil))) (fun _ _ => rfl)) (pa_cons (pv 3) pa_nil))))) pss_nil)
      (C8.pss_cut (ps_if (pt_cmpR op_eq (pv 7) pe_int (nomark _)) (pss_cons (ps_set (i := 9) scBentB.nd rfl (Or.inl rfl) (pe_call GO hr3 (by rfl) gO FO.kp bO .nil pass0 (pa_cons (pv 0) pa_nil)))
      (pss_one (ps_asg (pe_tupS pa_nil) (pg_sub (pv 6) (pe_ifExp (pt_val (pe_callB call_isLD (by rfl) T.isi boot_isinstance (pa_cons (pv 9) (pa_cons (pe_tupS (pa_cons (pe_bltn (v := .ty "list") (by rfl) T.list boot_list rfl) (pa_cons (pe_bltn (v := .ty "dict") (by rfl) T.dict boot_dict rfl) pa_nil))) pa_nil)))) pe_int (pv 9)) (set_any hu9))))) (pss_one (ps_if (pt_cmpR op_eq (pv 7) pe_int (nomark _)) (pss_one (ps_expr (pe_dpop1 (pv 6) (pv 5) ⟨by rfl, by rfl, by rfl, by rfl⟩))) (pss_one (ps_if (pt_cmpR op_eq (pv 7) pe_int (nomark _)) (pss_one (ps_for PassesOwn.never rfl (pi_range1 (by rfl) T.range (pa_cons (pe_op op_sub (pe_op op_sub pe_int (pe_call GT hr2 (by rfl) gT FT.kp bT .nil pass0 (pa_cons (pv 0) (pa_cons pe_int pa_nil)))) (pe_callB call_lenD (by rfl) T.len PySem.boot_len (pa_cons (pv 6) pa_nil))) pa_nil)) (pg_name (i := 10) scBentB.nd rfl (Or.inl rfl)) (pss_one (ps_dput hu1 (pv 6) (pe_ix ix_str pe_str (pv 10) (fun _ _ => rfl)) (pe_tupS pa_nil) rfl)))) (pss_one (ps_dput hu1 (pv 6) (pv 5) (pe_call GB hr4 (by rfl) gB FB.kp bB .nil pass0 (pa_cons (pv 0) (pa_cons (pv 2) (pa_cons (pe_dget hu1 (pv 3) (pv 5) (fun _ _ => rfl)) (pa_cons (pv 4) pa_nil))))) rfl)))))))
      (pss_one (ps_ret (pe_tupS (pa_cons (pv 2) (pa_cons (pe_frz (pv 6)) pa_nil))))))))))))), ?_⟩
    have B := S.ok
    have nl0 : 0 < ns.length := List.length_pos_iff.mpr B.n0
    refine ⟨_, rfl, bk, _, rfl, SqT.of (off_same _ _ S.hb), rfl, _, _, rfl, _, _, rfl, rfl, ?_⟩
    -- names
    refine ⟨_, rfl, rr, kvs, rfl, S.rd, fun na nna => ?_⟩
    rw [S.strs]
    have s1 : Same H (upd H na (.lst (ns.map V.str))) := Same.upd nna
    have nap : na ≠ p := pen_not C.any nna
    have hna1 : (upd H na (.lst (ns.map V.str))) na = some (.lst (ns.map V.str)) := upd_same
    have C1 := C.same s1 (Nat.le_refl _)
    have S1' := S.but (But.of s1)
    generalize upd H na (.lst (ns.map V.str)) = H1 at s1 hna1 C1 S1'
    -- name
    refine ⟨_, rfl, _, rfl, _, rfl, na, _, rfl, .inl (SqL.of hna1), p, pc, _, _, rfl, by rw [List.length_map]; omega, by rw [List.length_map]; exact small_nat (by omega), C1, by omega, fun ix H2 i0 i1 b2 C2 => ?_⟩
    rw [List.length_map] at i1
    obtain ⟨nm, nmin, hnm⟩ := str_at i0 i1
    have hna2 := b2 _ _ nap hna1
    refine ⟨na, _, _, _, rfl, rfl, SqL.of hna2, hnm, ?_⟩
    have S2' := S1'.but b2
    -- found
    refine ⟨_, rfl, rr, kvs, rfl, S2'.rd, fun fa nfa => ?_⟩
    have fap : fa ≠ p := pen_not C2.any nfa
    have fac : fa ≠ pc := fun z => C2.at_c (by rw [← z]; exact nfa)
    have Hfa : H fa = none := by
      cases q : H fa with
      | none => rfl
      | some o => rw [((But.of (p := p) s1).trans b2) _ _ fap q] at nfa; cases nfa
    have fana : fa ≠ na := fun z => by rw [z, hna2] at nfa; cases nfa
    have s3 : Same H2 (upd H2 fa (.dK kvs)) := Same.upd nfa
    have hfa3 : (upd H2 fa (.dK kvs)) fa = some (.dK kvs) := upd_same
    have C3 := C2.same s3 (Nat.le_refl _)
    have S3' := S2'.but (But.of s3)
    have hna3 := s3 _ _ hna2
    have b03 : But p H (upd H2 fa (.dK kvs)) := ((But.of s1).trans b2).trans (But.of s3)
    generalize upd H2 fa (.dK kvs) = H3 at s3 hfa3 C3 S3' hna3 b03
    -- way
    refine ⟨_, rfl, p, pc, 8, _, rfl, by decide, by decide, C3, by omega, fun wy H4 w0 w1 b4 C4 => ?_⟩
    have S4 := S3'.but b4
    have hna4 := b4 _ _ nap hna3
    have hfa4 := b4 _ _ fap hfa3
    have b04 := b03.trans b4
    clear hna1 hna2 hna3 hfa3 C C1 C2 C3 S1' S2' S3' s1 b2 s3 b03 b4 nna nfa
    refine ⟨_, rfl, rfl, _, rfl, ite2 (fun _ => ?_) (fun c0 => ?_)⟩
    · refine ⟨_, rfl, _, rfl, (by show 1 ≤ sizeLine; decide), fun c2 Ha sa h2 => ?_⟩
      have Ca := C4.same sa (Nat.le_refl _)
      refine ⟨_, rfl, _, rfl, (by show 3 ≤ sizeLine; decide), fun c3 Hb sb h3 => ?_⟩
      have Cb := Ca.same sb (Nat.le_refl _)
      refine ⟨_, rfl, _, rfl, (by show 2 ≤ sizeLine; decide), fun l4 Hc sc nl4 h4 => ?_⟩
      have Cc := Cb.same sc (Nat.le_refl _)
      have l4p : l4 ≠ p := pen_not Cb.any nl4
      refine ⟨_, rfl, _, rfl, (by show 2 ≤ sizeLine; decide), fun c5 Hd sd h5 => ?_⟩
      have Cd := Cc.same sd (Nat.le_refl _)
      have s4d := ((sa.trans sb).trans sc).trans sd
      refine ⟨_, rfl, _, rfl, rr, kvs, rfl, (S4.but (But.of s4d)).rd, fun He l6 ts se nl6 hl6 pr => ?_⟩
      have Ce := Cd.same se (Nat.le_refl _)
      have l6p : l6 ≠ p := pen_not Cd.any nl6
      have Se := S4.but (But.of (s4d.trans se))
      obtain ⟨ds, dxs, dsz, dln⟩ := items_dx Ce pr Se.fak
      have dl6 : Dx w (off He p) (.ref l6) (.list ds) := .lst (by rw [off_ne l6p]; exact hl6) dxs
      have zl6 : Sz 6000000 7 (.list ds) := (sz_lst (B := 800007) (k := 6) (n := 6) dsz (by rw [dln, Se.len]; exact n6)).up (by decide) (by decide)
      refine ⟨(by show 2 ≤ sizeLine; decide), fun c6 Hf sf h6 => ?_⟩
      have Cf := Ce.same sf (Nat.le_refl _)
      refine ⟨(by show 6 ≤ sizeLine; decide), fun sm Hg sg _ hsm => ?_⟩
      have Cg := Cf.same sg (Nat.le_refl _)
      have sbg := (((sc.trans sd).trans se).trans sf).trans sg
      have sag := sb.trans sbg
      have s4g := sa.trans sag
      have Sg := S4.but (But.of s4g)
      have zr := sz_rows B
      have zb : Sz 2000 1 (.int b) := s1_int (by have := B.b0; omega) B.b1
      have rows := Sg.rows
      have itm : ∀ v ∈ [V.ref rr, .ref c2, .ref c3, .ref l4, .ref c5, .ref c6], DX w p SB Hg v := by
        intro v hv
        simp only [List.mem_cons, List.not_mem_nil, or_false] at hv
        rcases hv with rfl | rfl | rfl | rfl | rfl | rfl
        · exact ⟨_, rows, zr.up (by decide) (by decide), fine_no fun _ _ e => nomatch e⟩
        · exact ⟨_, dx_new Cg (sag _ _ h2) (.cons (.int b) .nil), (sz_tup (B := 2000) (k := 1) (n := 1) (fun d hd => by rw [List.mem_singleton.mp hd]; exact zb) (by show 1 ≤ 1; decide)).up (by decide) (by decide), fine_no fun _ _ e => by injection e with e; injection e with _ e; cases e⟩
        · exact ⟨_, dx_new Cg (sbg _ _ h3) (.cons (.int b) (.cons rows (.cons (.int 0) .nil))), (sz_tup (B := 1000000) (k := 3) (n := 3) (fun d hd => by
            simp only [List.mem_cons, List.not_mem_nil, or_false] at hd
            rcases hd with rfl | rfl | rfl
            · exact zb.up (by decide) (by decide)
            · exact zr
            · exact (s1_int (by decide) (by decide)).up (by decide) (by decide)) (by show 3 ≤ 3; decide)).up (by decide) (by decide), fine_no fun _ _ e => by injection e with e; injection e with _ e; injection e with _ e; cases e⟩
        · exact ⟨_, .lst (by rw [off_ne l4p]; exact ((sd.trans se).trans (sf.trans sg)) _ _ h4) (.cons (.int b) (.cons rows .nil)), (sz_lst (B := 1000000) (k := 3) (n := 2) (fun d hd => by
            simp only [List.mem_cons, List.not_mem_nil, or_false] at hd
            rcases hd with rfl | rfl
            · exact zb.up (by decide) (by decide)
            · exact zr) (by show 2 ≤ 2; decide)).up (by decide) (by decide), fine_no fun _ _ e => nomatch e⟩
        · exact ⟨_, dx_new Cg ((se.trans (sf.trans sg)) _ _ h5) (.cons rows (.cons (.int b) .nil)), (sz_tup (B := 1000000) (k := 3) (n := 2) (fun d hd => by
            simp only [List.mem_cons, List.not_mem_nil, or_false] at hd
            rcases hd with rfl | rfl
            · exact zr
            · exact zb.up (by decide) (by decide)) (by show 2 ≤ 2; decide)).up (by decide) (by decide), fine_no fun _ _ e => by injection e with e; injection e with _ e; injection e with e _; cases e⟩
        · exact ⟨_, dx_new Cg (sg _ _ h6) (.cons (.int b) (.cons (dl6.mono (off_of (sf.trans sg))) .nil)), (sz_tup (B := 6000000) (k := 7) (n := 2) (fun d hd => by
            simp only [List.mem_cons, List.not_mem_nil, or_false] at hd
            rcases hd with rfl | rfl
            · exact zb.up (by decide) (by decide)
            · exact zl6) (by show 2 ≤ 2; decide)).up (by decide) (by decide), fine_no fun _ _ e => by injection e with e; injection e with _ e; injection e with e _; cases e⟩
      have smp : sm ≠ p := fun z => by
        obtain ⟨cells, x, y, g1, _⟩ := Cg.ex
        rw [z, g1] at hsm; cases hsm
      have hvl : [V.ref rr, .ref c2, .ref c3, .ref l4, .ref c5, .ref c6].length = 6 := rfl
      generalize [V.ref rr, V.ref c2, V.ref c3, V.ref l4, V.ref c5, V.ref c6] = vs at hsm itm hvl
      refine ⟨_, rfl, _, rfl, p, pc, 6, _, rfl, by decide, by decide, Cg, by omega, fun i Hi i0' i1' bi Ci => ?_⟩
      obtain ⟨v, vin, hv⟩ : ∃ v ∈ vs, atI vs i = some v := by
        obtain ⟨j, rfl⟩ : ∃ j : Nat, i = (j : Int) := ⟨i.toNat, by omega⟩
        have hj : j < vs.length := by omega
        exact ⟨vs[j], List.getElem_mem hj, atI_nat (List.getElem?_eq_getElem hj)⟩
      exact ⟨sm, _, _, v, rfl, rfl, SqL.of (bi _ _ smp hsm), hv, k _ _ ((b04.trans (But.of s4g)).trans bi) (Ci.same (Same.refl _) (by omega)) ((itm v vin).but bi)⟩
    refine ⟨_, rfl, rfl, _, rfl, ite2 (fun _ => ?_) (fun c1 => ?_)⟩
    · have hp4 : H4 p ≠ none := C4.any.some
      refine ⟨off H4 p, off_same, fun vs G1 H5 m1 d1 => ?_⟩
      have l1 := d1.len
      refine ⟨by rw [l1]; decide, fun l nl => ?_⟩
      have s1 : Same H4 (upd H5 l (.lst vs)) := m1.hh.trans (Same.upd nl)
      have C5 := C4.same s1 (Nat.le_refl _)
      have lp : l ≠ p := fun z => hp4 (m1.hh.free (z ▸ nl))
      have d2 := (d1.mono (nw_off m1 hp4)).mono (off_of (Same.upd (o := .lst vs) nl))
      refine ⟨_, rfl, p, pc, 9, _, rfl, by decide, by decide, C5, by omega, fun i H6 i0' i1' b6 C6 => ?_⟩
      obtain ⟨v, d, e1, e2, e3⟩ := dx_at (d2.mono (off_but b6)) i0' (by show i < 9; exact i1')
      refine ⟨l, _, _, v, rfl, rfl, SqL.of (b6 _ _ lp upd_same), e1, _, rfl, (by show 2 ≤ sizeLine; decide), fun c Hc sc hc => ?_⟩
      have C7 := C6.same sc (Nat.le_refl _)
      have bb : But p H4 Hc := ((But.of s1).trans b6).trans (But.of sc)
      have zd : S1 d := by
        simp only [List.mem_cons, List.not_mem_nil, or_false] at e2
        rcases e2 with rfl | rfl | rfl | rfl | rfl | rfl | rfl | rfl | rfl
        · exact s1_sm (by decide)
        · exact s1_sm (by decide)
        · exact s1_sm (by decide)
        · exact s1_sm (by decide)
        · exact odd_s1 _ (by simp [oddsD])
        · exact odd_s1 _ (by simp [oddsD])
        · exact s1_text (by decide +kernel)
        · exact s1_sm (by decide)
        · exact s1_sm (by decide)
      refine k _ _ (b04.trans bb) (C7.same (Same.refl _) (by omega)) ⟨_, dx_new C7 hc (.cons (e3.mono (off_of sc)) (.cons (S4.but bb).rows .nil)), (sz_tup (B := 1000000) (k := 3) (n := 2) (fun x hx => by
        simp only [List.mem_cons, List.not_mem_nil, or_false] at hx
        rcases hx with rfl | rfl
        · exact zd.up (by decide) (by decide)
        · exact sz_rows B) (by show 2 ≤ 2; decide)).up (by decide) (by decide), fine_rows B⟩
    have hfo : off H4 p fa = some (.dK kvs) := by rw [off_ne fap]; exact hfa4
    have fk4 : FaK w (off (off H4 p) fa) kvs := S4.fak.offK hfo
    have kl : kvs.length ≤ 6 := by rw [S4.len]; exact n6
    refine ⟨fun σ Ho => ∃ x7 x8 x9 x10 : Option V, σ = [some (.ref p), some (.ref bk), some (.int b), some (.ref rr), some (.ref na), some (.str nm), some (.ref fa), x7, x8, x9, x10] ∧ Mk w p pc fa (t + 20) H4 Ho, ?_, ?_⟩
    · refine ⟨_, rfl, rfl, _, rfl, ite2 (fun _ => ?_) (fun c2 => ?_)⟩
      · refine ⟨_, rfl, p, pc, _, rfl, C4, by omega, fun v H5 b5 C5 d5 => ?_⟩
        obtain ⟨od, x5, y5⟩ := d5
        refine ⟨(by show 0 ≤ sizeLine; decide), fun e H6 s6 h6 => ?_⟩
        refine ⟨_, rfl, _, rfl, (by show 2 ≤ sizeLine; decide), fun tp H7 s7 h7 => ?_⟩
        have C7 := C5.same (s6.trans s7) (Nat.le_refl _)
        have b47 := (b5.trans (But.of s6)).trans (But.of s7)
        have hfa5 := b5 _ _ fap hfa4
        have hfa7 := b47 _ _ fap hfa4
        have x7 : Dx w H7 v od := x5.mono (off_same.trans (s6.trans s7))
        have h67 := s7 _ _ h6
        have efa : e ≠ fa := fun z => by rw [z, hfa7] at h67; cases h67
        have eo : off H7 p e = some (.tup []) := tup_off C7 h67
        have x8 : Dx w (off (off H7 p) fa) v od := (x5.offK (kv := kvs) (by rw [off_ne fap]; exact hfa5)).mono (off_two fun c o _ _ q => (s6.trans s7) c o q)
        have fin : ∀ (k' : NestedKey) (i : V) (H8 : Hp), (∃ d, Dx w (off (off H7 p) fa) i d ∧ S1 d ∧ StrOk d) → (∀ c, c ≠ fa → H8 c = H7 c) → DN w H8 fa (putN (kvvs kvs) k' i (.ref e)) → Mk w p pc fa (t + 20) H4 H8 := fun k' i H8 hi ag dn => by
          have s78 : Same (off (off H7 p) fa) (off (off H8 p) fa) := off_two fun c o _ hc q => by rw [ag c hc]; exact q
          refine ⟨pen_agree C7 fap fac ag (by omega), fun c o hp hf q => by rw [ag c hf]; exact b47 c o hp q, .inr ⟨_, dn, ?_, ?_⟩⟩
          · have := putN_len (kvs := kvvs kvs) (k := k') (i := i) (v := .ref e)
            rw [kvvs_len] at this
            omega
          · refine (((fk4.mono (off_two fun c o hp _ q => b47 c o hp q)).fa).put hi ⟨.tuple [], .tup (by rw [off_ne efa]; exact eo) .nil, sr_tup (fun _ h => absurd h List.not_mem_nil) (by show 0 ≤ 40; decide)⟩).mono s78
        refine ⟨v, od, tp, rfl, h7, x7, _, rfl, ite2 (fun _ => ?_) (fun ld => ?_)⟩
        · exact ⟨fa, .num 5, rfl, .int 5, by decide, .inl ⟨kvs, hfa7, by rw [sizeLine_eq]; omega, fun H8 ag dn => ⟨_, _, _, _, rfl, fin _ _ H8 ⟨.int 5, .int 5, s1_sm (by decide), fun _ e => nomatch e⟩ ag dn⟩⟩⟩
        · have ld' : isLD od = false := by simpa using ld
          obtain ⟨k', hk, h8⟩ := key_odd x7 y5 ld'
          exact ⟨_, rfl, fa, k', rfl, hk, h8, .inl ⟨kvs, hfa7, by rw [sizeLine_eq]; omega, fun H8 ag dn => ⟨_, _, _, _, rfl, fin _ _ H8 ⟨od, x8, odd_s1 _ y5, strOk_odd _ y5⟩ ag dn⟩⟩⟩
      refine ⟨_, rfl, rfl, _, rfl, ite2 (fun _ => ?_) (fun c3 => ?_)⟩
      · obtain ⟨v, row, hv, _, _⟩ := S4.row nmin
        refine ⟨_, rfl, fa, rfl, .inl ⟨kvs, .inl hfa4⟩, _, rfl, kvs, Sum.inr nm, v, hfa4, rfl, hv, ?_⟩
        have ag : ∀ c, c ≠ fa → upd H4 fa (.dK (dropK kvs (Sum.inr nm))) c = H4 c := fun c hc => upd_ne hc
        refine ⟨_, _, _, _, rfl, pen_agree C4 fap fac ag (by omega), fun c o _ hf q => by rw [ag c hf]; exact q, .inl ⟨_, upd_same, by have := dropK_le kvs (Sum.inr nm : Key); omega, ?_⟩⟩
        exact fk4.drop.mono (off_two fun c o _ hc q => by rw [ag c hc]; exact q)
      refine ⟨_, rfl, rfl, _, rfl, ite2 (fun _ => ?_) (fun c4 => ?_)⟩
      · refine ⟨_, rfl, p, pc, 2, _, rfl, by decide, by decide, C4, by omega, fun i H5 i0' i1' b5 C5 => ?_⟩
        have hfa5 := b5 _ _ fap hfa4
        refine ⟨_, _, rfl, rfl, _, rfl, fa, kvs, rfl, hfa5, _, _, rfl, rfl, _, rfl, by omega, by omega, for_it (walk_range (lo := 0) (n := (7 - i - (kvs.length : Int)).toNat)) (fun j σ Ho => ∃ x10 : Option V, σ = [some (.ref p), some (.ref bk), some (.int b), some (.ref rr), some (.ref na), some (.str nm), some (.ref fa), some (.int wy), none, none, x10] ∧
          j ≤ 7 ∧ PenC Ho p pc (t + 20) ∧ (∀ c o, c ≠ p → c ≠ fa → H4 c = some o → Ho c = some o) ∧ ∃ kv, Ho fa = some (.dK kv) ∧ kv.length ≤ kvs.length + j ∧ FaK w (off (off Ho p) fa) kv) ?_ (fun _ _ _ _ _ => trivial) ?_ ?_⟩
        · exact ⟨_, rfl, Nat.zero_le _, C5.same (Same.refl _) (by omega), fun c o hp _ q => b5 c o hp q, kvs, hfa5, Nat.le_refl _, fk4.mono (off_two fun c o hp _ q => b5 c o hp q)⟩
        · rintro j x σ Ho Hp' hj ⟨x10, rfl, j7, Co, ag, kv, hkv, kvl, fk⟩ ⟨rfl, hx⟩
          replace hx : x = V.int j := hx.trans (by show V.int (0 + (j : Int)) = _; rw [Int.zero_add])
          subst hx
          obtain ⟨c, hc, c97, c122⟩ := qs_at (i := (j : Int)) (by omega) (by omega)
          refine ⟨(by show 0 ≤ sizeLine; decide), fun e He se he => ?_⟩
          have hfe := se _ _ hkv
          have efa : e ≠ fa := fun z => by rw [z, hfe] at he; cases he
          have Ce := Co.same se (Nat.le_refl _)
          refine ⟨_, rfl, _, rfl, _, _, c, rfl, rfl, by rw [sizeLine_eq]; decide +kernel, hc, fa, _, rfl, DPut.k (k := Sum.inr ⟨#[c]⟩) hfe (by rw [sizeLine_eq]; omega), ?_⟩
          have ag' : ∀ a, a ≠ fa → upd He fa (.dK (putK kv (Sum.inr ⟨#[c]⟩) (.ref e))) a = He a := fun a ha => upd_ne ha
          refine ⟨_, rfl, by omega, pen_agree Ce fap fac ag' (Nat.le_refl _), fun a o hp hf q => by rw [ag' a hf]; exact se _ _ (ag a o hp hf q), _, upd_same, by have := putK_le (kv := kv) (k := (Sum.inr ⟨#[c]⟩ : Key)) (v := .ref e); omega, ?_⟩
          have n1 := name_one c97 c122
          refine ((fk.mono (off_two fun a o _ _ q => se a o q)).put ⟨.str ⟨#[c]⟩, .str _, s1_str n1, strOk_name n1⟩ ⟨.tuple [], .tup (by rw [off_ne efa]; exact tup_off Ce he) .nil, sr_tup (fun _ h => absurd h List.not_mem_nil) (by show 0 ≤ 40; decide)⟩).mono (off_two fun a o _ ha q => by rw [ag' a ha]; exact q)
        · rintro σ Ho ⟨x10, rfl, j7, Co, ag, kv, hkv, kvl, fk⟩
          exact ⟨_, _, _, _, rfl, Co, ag, .inl ⟨kv, hkv, by omega, fk⟩⟩
      · obtain ⟨v, row, hv, dv, rin⟩ := S4.row nmin
        refine ⟨_, rfl, _, rfl, _, rfl, _, rfl, rr, v, rfl, .inl ⟨kvs, Sum.inr nm, S4.rd, rfl, hv.symm⟩, _, rfl, p, pc, na, b, v, ns, _, rfl, B.b0, B.b1, B.n0, B.n8, B.ok, C4, by omega, nap, hna4, ⟨_, dv, rowf_in B rin⟩, fun v' H5 b5 C5 d5 => ?_⟩
        have hfa5 := b5 _ _ fap hfa4
        refine ⟨_, rfl, _, rfl, fa, _, rfl, DPut.k (k := Sum.inr nm) hfa5 (by rw [sizeLine_eq]; omega), ?_⟩
        obtain ⟨d, x5, z5⟩ := d5
        have ag' : ∀ a, a ≠ fa → upd H5 fa (.dK (putK kvs (Sum.inr nm) v')) a = H5 a := fun a ha => upd_ne ha
        refine ⟨_, _, _, _, rfl, pen_agree C5 fap fac ag' (by omega), fun c o hp hf q => by rw [ag' c hf]; exact b5 c o hp q, .inl ⟨_, upd_same, by have := putK_le (kv := kvs) (k := (Sum.inr nm : Key)) (v := v'); omega, ?_⟩⟩
        refine ((fk4.mono (off_two fun c o hp _ q => b5 c o hp q)).put ⟨.str nm, .str nm, s1_str (B.ok _ nmin), strOk_name (B.ok _ nmin)⟩ ⟨d, x5.offK (kv := kvs) (by rw [off_ne fap]; exact hfa5), z5⟩).mono (off_two fun a o _ ha q => by rw [ag' a ha]; exact q)
    · rintro σ Ho ⟨x7, x8, x9, x10, rfl, M⟩
      have done : ∀ (kv : List Kvv) (u : HO) (od : Obj) (c : Addr) (Hc : Hp), DF w (upd Ho fa (.frz od u)) fa kv → kv.length ≤ 10 → Fa w (off (off Ho p) fa) kv → Same (upd Ho fa (.frz od u)) Hc → Hc c = some (.tup [.int b, .ref fa]) → Q (.ref c) Hc := fun kv u od c Hc df l f sc hc => by
        have ag : ∀ a, a ≠ fa → upd Ho fa (.frz od u) a = Ho a := fun a ha => upd_ne ha
        have Cu := pen_agree M.pen fap fac ag (Nat.le_refl _)
        have Cc := Cu.same sc (Nat.le_refl _)
        have b4c : ∀ a o, a ≠ p → a ≠ fa → Ho a = some o → Hc a = some o := fun a o _ hf q => sc _ _ (by rw [ag a hf]; exact q)
        have bH : But p H Hc := fun a o hp q => by
          have hf : a ≠ fa := fun z => by rw [z, Hfa] at q; cases q
          exact b4c a o hp hf (M.ag a o hp hf (b04 a o hp q))
        obtain ⟨od', u', es, ep, g, r⟩ := id (df.mono sc)
        have dfo : DF w (off Hc p) fa kv := df_leaf (df.mono sc) g (by rw [off_ne fap]; exact g) fun x hx => ((df.mono sc).keyv x hx).up fun a xs q => tup_off Cc q
        exact k _ _ bH Cc ((f.mono (off_more b4c)).dict l dfo (by have := B.b0; omega) B.b1 (tup_off Cc hc))
      rcases M.fd with ⟨kv, h1, h2, h3⟩ | ⟨kv, h1, h2, h3⟩
      · refine ⟨_, rfl, _, rfl, fa, .inl ⟨kv, h1, fun od df => ⟨(by show 2 ≤ sizeLine; decide), fun c Hc sc hc => ?_⟩⟩⟩
        exact done _ _ od c Hc df (by rw [kvvs_len]; exact h2) h3.fa sc hc
      · obtain ⟨es, ep, g1, g2⟩ := h1
        refine ⟨_, rfl, _, rfl, fa, .inr ⟨kv, es, ep, g1, g2, fun od df => ⟨(by show 2 ≤ sizeLine; decide), fun c Hc sc hc => ?_⟩⟩⟩
        exact done _ _ od c Hc df h2 h3 sc hc
end
end My

set_option linter.all false
namespace My
open PySem PySem.Spec PyProof.Rows L2
abbrev sLawB : Stmt := topS 24
def spLaw (K : PySem.W.Frag) : Sp := fun vs H Q _ => ∃ (a : Addr) (ns : List Int), vs = [.ref a] ∧ SqL K H a (ns.map V.int) ∧ ns.length ≤ 63 ∧ ∀ H', Q (.bl true) H'
theorem _root_.L2.Room.repr {k : Nat} {A : Around} (r : Room k A) : A.units + 111 < cLine := by have := r.un; omega
structure TxLB (mg : Str → Option Value) : Prop where
  range : mg "range" = none
  list : mg "list" = none
  repr : mg "repr" = none
  len : mg "len" = none
  int : mg "int" = none
  dict : mg "dict" = none
theorem noDictPairs : ∀ row : List (Int × Str), PyData.hasDictAll (row.map fun q => PyData.tuple [.int q.1, .str q.2]) = false
  | [] => by simp only [List.map_nil, PyData.hasDictAll]
  | q :: r => by simp only [List.map_cons, PyData.hasDictAll, PyData.hasDict, noDictPairs r, Bool.or_self]
theorem noDictRows : ∀ rws : List (List (Int × Str)), PyData.hasDictAll (rws.map rowD) = false
  | [] => by simp only [List.map_nil, PyData.hasDictAll]
  | x :: r => by simp only [List.map_cons, rowD, PyData.hasDictAll, PyData.hasDict, noDictPairs x, noDictRows r, Bool.or_self]
/-- what stands all through a turn -/
structure Wb (w : World) (p pc bk rr ln : Addr) (b : Int) (ns : List Str) (rws : List (List (Int × Str))) (kvs : List (Key × V)) (t : Nat) (H : Hp) : Prop where
  pen : PenC H p pc t
  bkx : Bkx w p bk rr b ns rws kvs H
  lnp : ln ≠ p
  hln : H ln = some (.lst (ns.map V.str))
  n6 : ns.length ≤ 6
theorem Wb.but {w : World} {p pc bk rr ln : Addr} {b : Int} {ns : List Str} {rws : List (List (Int × Str))} {kvs : List (Key × V)} {t u : Nat} {H H' : Hp} (h : Wb w p pc bk rr ln b ns rws kvs t H) (e : But p H H') (P : PenC H' p pc u) : Wb w p pc bk rr ln b ns rws kvs u H' :=
  ⟨P, h.bkx.but e, h.lnp, e _ _ h.lnp h.hln, h.n6⟩
theorem Wb.same {w : World} {p pc bk rr ln : Addr} {b : Int} {ns : List Str} {rws : List (List (Int × Str))} {kvs : List (Key × V)} {t : Nat} {H H' : Hp} (h : Wb w p pc bk rr ln b ns rws kvs t H) (e : Same H H') : Wb w p pc bk rr ln b ns rws kvs t H' :=
  h.but (But.of e) (h.pen.same e (Nat.le_refl _))
/-- the list of things -/
structure Th (w : World) (p th : Addr) (n : Nat) (H : Hp) : Prop where
  ex : ∃ vs : List V, H th = some (.lst vs) ∧ th ≠ p ∧ vs.length ≤ n ∧ ∀ v ∈ vs, DX w p SB H v
theorem Th.but {w : World} {p th : Addr} {n : Nat} {H H' : Hp} (h : Th w p th n H) (e : But p H H') : Th w p th n H' := by
  obtain ⟨vs, h1, h2, h3, h4⟩ := h.ex
  exact ⟨vs, e _ _ h2 h1, h2, h3, fun v hv => (h4 v hv).but e⟩
theorem sb_small {d : PyData} (h : Sz 8000 4 d) (n : ∀ b ds, d ≠ .tuple [b, .dict ds]) : SB d := ⟨h.up (by decide) (by decide), fine_no n⟩
/-- a new tuple of the base and something -/
theorem sb_pair {b : Int} {d : PyData} (b0 : 0 ≤ b) (b1 : b ≤ 10) (h : Sz 8000 4 d) (n : ∀ ds, d ≠ .dict ds) : SB (.tuple [.int b, d]) :=
  ⟨(sz_tup (B := 8000) (k := 4) (n := 2) (fun x hx => by
    rcases List.mem_cons.mp hx with rfl | hx
    · exact (s1_int b0 b1).up (by decide) (by decide)
    · rw [List.mem_singleton.mp hx]; exact h) (by show 2 ≤ 2; decide)).up (by decide) (by decide), fine_no fun _ _ e => by injection e with e; injection e with _ e; injection e with e _; exact n _ e⟩
def oddL : List PyData := [.none, .int 0, .bool true, .str "", .str "a", .tuple [], .list [], .tuple [.tuple [.int 0, .int 0]], .list [.tuple [.str "a", .tuple []]]]
theorem sz_e : Sz 2000 1 (.tuple []) := odd_s1 _ (by simp [oddsD])
theorem oddL_ok : ∀ d ∈ oddL, Sz 8000 4 d ∧ ∀ ds, d ≠ .dict ds := by
  intro d hd
  unfold oddL at hd
  simp only [List.mem_cons, List.not_mem_nil, or_false] at hd
  rcases hd with rfl | rfl | rfl | rfl | rfl | rfl | rfl | rfl | rfl
  · exact ⟨(odd_s1 _ (by simp [oddsD])).up (by decide) (by decide), fun _ e => nomatch e⟩
  · exact ⟨(s1_sm (by decide)).up (by decide) (by decide), fun _ e => nomatch e⟩
  · exact ⟨(odd_s1 _ (by simp [oddsD])).up (by decide) (by decide), fun _ e => nomatch e⟩
  · exact ⟨(s1_text (by decide +kernel)).up (by decide) (by decide), fun _ e => nomatch e⟩
  · exact ⟨(s1_text (by decide +kernel)).up (by decide) (by decide), fun _ e => nomatch e⟩
  · exact ⟨sz_e.up (by decide) (by decide), fun _ e => nomatch e⟩
  · exact ⟨(odd_s1 (.list []) (by simp [oddsD])).up (by decide) (by decide), fun _ e => nomatch e⟩
  · refine ⟨(sz_tup (B := 7000) (k := 2) (n := 1) (fun x hx => ?_) (by decide)).up (by decide) (by decide), fun _ e => nomatch e⟩
    rw [List.mem_singleton.mp hx]
    exact (sz_tup (B := 2000) (k := 1) (n := 2) (fun y hy => by
      have : y = .int 0 := by simpa using hy
      rw [this]; exact s1_sm (by decide)) (by decide)).up (by decide) (by decide)
  · refine ⟨(sz_lst (B := 7000) (k := 2) (n := 1) (fun x hx => ?_) (by decide)).up (by decide) (by decide), fun _ e => nomatch e⟩
    rw [List.mem_singleton.mp hx]
    exact (sz_tup (B := 2000) (k := 1) (n := 2) (fun y hy => by
      rcases List.mem_cons.mp hy with rfl | hy
      · exact s1_text (by decide +kernel)
      · rw [List.mem_singleton.mp hy]; exact sz_e) (by decide)).up (by decide) (by decide)
/-! a list that grows is in no data -/
mutual
theorem Dx.offL {w : World} {G : Hp} {a : Addr} {od : Obj} {xs : List V} (e : G a = some (.frz od (.lst xs))) : ∀ {v : V} {d : PyData}, Dx w G v d → Dx w (off G a) v d
  | _, _, .non => .non
  | _, _, .bl b => .bl b
  | _, _, .int i => .int i
  | _, _, .str x => .str x
  | _, _, .lst h t => .lst (by rw [off_ne fun z => by rw [z, e] at h; cases h]; exact h) (DxAll.offL e t)
  | _, _, .tup h t => .tup (by rw [off_ne fun z => by rw [z, e] at h; cases h]; exact h) (DxAll.offL e t)
  | _, _, .dct h t u => .dct (by
      obtain ⟨od', o', es, ep, g, _, _, _, _, du⟩ := id h
      exact df_leaf h g (by
        rw [off_ne fun z => by
          rw [z, e] at g
          cases g
          rcases du with ⟨_, du⟩ | ⟨_, _, du⟩ <;> cases du]
        exact g) fun x hx => (h.keyv x hx).up fun c xs q => by rw [off_ne fun z => by rw [z, e] at q; cases q]; exact q) (DxAll.offL e t) (DxAll.offL e u)
theorem DxAll.offL {w : World} {G : Hp} {a : Addr} {od : Obj} {xs : List V} (e : G a = some (.frz od (.lst xs))) : ∀ {vs : List V} {ds : List PyData}, DxAll w G vs ds → DxAll w (off G a) vs ds
  | _, _, .nil => .nil
  | _, _, .cons h t => .cons (Dx.offL e h) (DxAll.offL e t)
end
theorem but_off {p D : Addr} {H H' : Hp} (b : ∀ c o, c ≠ p → c ≠ D → H c = some o → H' c = some o) : But p (off H D) (off H' D) := fun c o h q => by
  by_cases z : c = D
  · rw [z, off_at] at q; cases q
  · rw [off_ne z] at q ⊢; exact b c o h z q
theorem off_comm {p D : Addr} {H H' : Hp} (b : ∀ c, c ≠ D → H' c = H c) : Same (off (off H p) D) (off (off H' D) p) := fun c o q => by
  by_cases z : c = D
  · rw [z, off_at] at q; cases q
  · rw [off_ne z] at q
    by_cases y : c = p
    · rw [y, off_at] at q; cases q
    · rw [off_ne y] at q
      rw [off_ne y, off_ne z, b c z]; exact q
theorem same_offD {D : Addr} {H H' : Hp} (n : H D = none) (b : ∀ c, c ≠ D → H' c = H c) : Same H (off H' D) := fun c o q => by
  have z : c ≠ D := ne_of_none q n
  rw [off_ne z, b c z]; exact q
def oddK : List PyData := [.str "", .str "A", .str "a1", .str "a_b", .str "a b", .str "a-", .str "aB", .str "a.", .str a9, .int 5, .none, .tuple []]
theorem oddK_ok : ∀ d ∈ oddK, S1 d ∧ StrOk d := by
  intro d hd
  unfold oddK at hd
  simp only [List.mem_cons, List.not_mem_nil, or_false] at hd
  have tx : ∀ x : Str, (reprText x).length ≤ 2000 → x.length ≤ 100 → PyData.strOk x = true → S1 (.str x) ∧ StrOk (.str x) := fun x h1 h2 h3 => ⟨s1_text h1, fun y e => by cases e; exact ⟨by rw [sizeLine_eq]; omega, h3⟩⟩
  rcases hd with rfl | rfl | rfl | rfl | rfl | rfl | rfl | rfl | rfl | rfl | rfl | rfl
  · exact tx _ (by decide +kernel) (by decide +kernel) (by decide +kernel)
  · exact tx _ (by decide +kernel) (by decide +kernel) (by decide +kernel)
  · exact tx _ (by decide +kernel) (by decide +kernel) (by decide +kernel)
  · exact tx _ (by decide +kernel) (by decide +kernel) (by decide +kernel)
  · exact tx _ (by decide +kernel) (by decide +kernel) (by decide +kernel)
  · exact tx _ (by decide +kernel) (by decide +kernel) (by decide +kernel)
  · exact tx _ (by decide +kernel) (by decide +kernel) (by decide +kernel)
  · exact tx _ (by decide +kernel) (by decide +kernel) (by decide +kernel)
  · exact tx _ (by decide +kernel) (by decide +kernel) (by decide +kernel)
  · exact ⟨s1_sm (by decide), fun _ e => nomatch e⟩
  · exact ⟨odd_s1 _ (by simp [oddsD]), fun _ e => nomatch e⟩
  · exact ⟨sz_e, fun _ e => nomatch e⟩
theorem key_oddK {w : World} {G : Hp} {v : V} {d : PyData} (h : Dx w G v d) (io : d ∈ oddK) : ∃ k, KeyV G k v ∧ k.depth ≤ 8 := by
  cases h with
  | non => exact ⟨_, .non, by simp only [NestedKey.depth]; omega⟩
  | bl b => exact ⟨_, .bl b, by simp only [NestedKey.depth]; omega⟩
  | int i => exact ⟨_, .int i, by simp only [NestedKey.depth]; omega⟩
  | str x => exact ⟨_, .str x, by simp only [NestedKey.depth]; omega⟩
  | lst _ _ => simp [oddK] at io
  | dct _ _ _ => simp [oddK] at io
  | @tup a xs ds h t =>
    have c : ds = [] := by simpa [oddK] using io
    subst c
    cases t
    exact ⟨_, .tup h .nil, by decide⟩
theorem paired_zs2 {α β : Type} {R : α → β → Prop} : ∀ {as : List α} {bs : List β}, Paired R as bs → ∃ zs : List (α × β), as = zs.map (·.1) ∧ bs = zs.map (·.2) ∧ ∀ z ∈ zs, R z.1 z.2
  | _, _, .nil => ⟨[], rfl, rfl, fun _ h => nomatch h⟩
  | _, _, .cons h r => by
    obtain ⟨zs, rfl, rfl, f⟩ := paired_zs2 r
    exact ⟨(_, _) :: zs, rfl, rfl, fun z hz => by
      rcases List.mem_cons.mp hz with rfl | hz
      · exact h
      · exact f z hz⟩
theorem cut_map {α : Type} (f : α → V) (zs : List α) (lo hi : Option Int) : ∃ zs' : List α, cutV (zs.map f) lo hi = zs'.map f ∧ (∀ z ∈ zs', z ∈ zs) ∧ zs'.length ≤ zs.length := by
  unfold cutV
  rw [← List.map_drop, ← List.map_take]
  exact ⟨_, rfl, fun z hz => List.mem_of_mem_drop (List.mem_of_mem_take hz), by rw [List.length_take, List.length_drop]; omega⟩
theorem cut_len {xs : List V} {i : Int} (h : 0 ≤ i) : (cutV xs none (some i)).length + (cutV xs (some i) none).length ≤ xs.length := by
  obtain ⟨m, rfl⟩ : ∃ m : Nat, i = (m : Int) := ⟨i.toNat, by omega⟩
  unfold cutV
  have a1 : HT.sIx xs.length 0 (some (m : Int)) = min m xs.length := sIx_nat _ _ m
  have a2 : HT.sIx xs.length xs.length (some (m : Int)) = min m xs.length := sIx_nat _ _ m
  have a3 : HT.sIx xs.length 0 none = 0 := rfl
  have a4 : HT.sIx xs.length xs.length none = xs.length := rfl
  rw [a1, a2, a3, a4, List.length_take, List.length_take, List.length_drop, List.length_drop]
  omega
theorem Fa.puts {w : World} {G : Hp} : ∀ {more acc : List Kvv}, Fa w G acc → Fa w G more → Fa w G (putsN acc more)
  | [], _, h, _ => h
  | x :: r, acc, h, f => Fa.puts (more := r) (h.put (f x List.mem_cons_self).1 (f x List.mem_cons_self).2) fun y hy => f y (List.mem_cons_of_mem _ hy)
/-- a dict made here and now -/
theorem dict_new {w : World} {p pc dp c : Addr} {t : Nat} {b : Int} {kv : List Kvv} {u : HO} {od : Obj} {H Hc : Hp} (b0 : 0 ≤ b) (b1 : b ≤ 10) (C : PenC Hc p pc t) (dpp : dp ≠ p) (df : DF w (upd H dp (.frz od u)) dp kv) (s : Same (upd H dp (.frz od u)) Hc) (f : Fa w (off Hc p) kv) (l : kv.length ≤ 10) (hc : Hc c = some (.tup [.int b, .ref dp])) : DX w p SB Hc (.ref c) := by
  obtain ⟨od', u', es, ep, g, r⟩ := id (df.mono s)
  have dfo : DF w (off Hc p) dp kv := df_leaf (df.mono s) g (by rw [off_ne dpp]; exact g) fun x hx => ((df.mono s).keyv x hx).up fun a xs q => tup_off C q
  exact f.dict l dfo b0 b1 (tup_off C hc)
section
variable {P : Program} {w : World} {K : PySem.W.Frag} {mg : Str → Option Value} {base : Heap}
theorem scLawB : FnScope ["script", "pen", "turn", "base", "names", "book", "things", "odd", "at", "rows", "thing", "before", "k"] ["script"] (defScope sLawB) := ⟨rfl, rfl, rfl, by decide +kernel, rfl, by decide +kernel, by decide +kernel⟩
theorem ok_law {f fOp fT fNm fBk fBt fIb fLb : Addr} {fd fdOp fdT fdNm fdBk fdBt fdIb fdLb : FuncData} (F : Fun K "law" "law" sLawB f fd) (T : TxLB mg)
    (FOp : Fun K "_law_open" "_law_open" sOpen fOp fdOp) (GOp : FnOk P w K mg base CX0 1 fOp fdOp ["script"] (spOpen K)) (bOp : Binds K fdOp ["script"] []) (gOp : mg "_law_open" = some (.ref fOp))
    (FT : Fun K "_law_take" "_law_take" sTake fT fdT) (GT : FnOk P w K mg base CX0 2 fT fdT ["pen", "many"] spTakeC) (bT : Binds K fdT ["pen", "many"] []) (gT : mg "_law_take" = some (.ref fT))
    (FNm : Fun K "_law_names" "_law_names" sNames fNm fdNm) (GNm : FnOk P w K mg base CX0 3 fNm fdNm ["pen", "many"] spNames) (bNm : Binds K fdNm ["pen", "many"] []) (gNm : mg "_law_names" = some (.ref fNm))
    (FBk : Fun K "_law_book" "_law_book" sBook fBk fdBk) (GBk : FnOk P w K mg base CX0 4 fBk fdBk ["pen", "base", "names", "most"] (spBook K)) (bBk : Binds K fdBk ["pen", "base", "names", "most"] []) (gBk : mg "_law_book" = some (.ref fBk))
    (FBt : Fun K "_law_bent" "_law_bent" sBentB fBt fdBt) (GBt : FnOk P w K mg base CX0 5 fBt fdBt ["pen", "book"] (spBentB w)) (bBt : Binds K fdBt ["pen", "book"] []) (gBt : mg "_law_bent" = some (.ref fBt))
    (FIb : Fun K "is_book" "is_book" sIsBookX fIb fdIb) (GIb : FnOk P w K mg base CX0 4 fIb fdIb ["thing"] (spBookX w)) (bIb : Binds K fdIb ["thing"] []) (gIb : mg "is_book" = some (.ref fIb))
    (FLb : Fun K "_law_is_book" "_law_is_book" sLBook fLb fdLb) (GLb : FnOk P w K mg base CX0 3 fLb fdLb ["thing"] (spLBook w)) (bLb : Binds K fdLb ["thing"] []) (gLb : mg "_law_is_book" = some (.ref fLb)) :
    AtTop P w K mg base f fd ["script"] (spLaw K) := by
  refine top_ok (k := 5) F scLawB (fun vs H Q E h => ?_) ⟨rfl, by decide, by decide⟩ (fun cdv out s H vs Q E hr h => ?_)
  · obtain ⟨a, ns, rfl, _⟩ := h
    rfl
  · obtain ⟨a, ns0, rfl, hS, hlen, k⟩ := h
    have hr1 : Room 1 _ := hr.mono (by decide)
    have hr2 : Room 2 _ := hr.mono (by decide)
    have hr3 : Room 3 _ := hr.mono (by decide)
    have hr4 : Room 4 _ := hr.mono (by decide)
    have hu := hr.units
    have hu8 := Nat.lt_trans (Nat.add_lt_add_left (show 8 < 64 by decide) _) hr.units
    refine ⟨_, (pss_cons (ps_set (i := 1) scLawB.nd rfl (Or.inr rfl) (pe_call GOp hr1 (by rfl) gOp FOp.kp bOp .nil pass0 (pa_cons (pv 0) pa_nil)))
      (pss_cons (ps_for PassesOwn.never rfl (pi_range1 (by rfl) T.range (pa_cons pe_int pa_nil)) (pg_name (i := 2) scLawB.nd rfl (Or.inl rfl)) (pss_cons (ps_set (i := 3) scLawB.nd rfl (Or.inr rfl) (pe_op op_add pe_int (pe_call GT hr2 (by rfl) gT FT.kp bT .nil pass0 (pa_cons (pv 1) (pa_cons pe_int pa_nil)))))
      (pss_cons (ps_set (i := 4) scLawB.nd rfl (Or.inl rfl) (pe_call GNm hr3 (by rfl) gNm FNm.kp bNm .nil pass0 (pa_cons (pv 1) (pa_cons (pe_op op_add pe_int (pe_call GT hr2 (by rfl) gT FT.kp bT .nil pass0 (pa_cons (pv 1) (pa_cons pe_int pa_nil)))) pa_nil))))
      (C8.pss_cut (ps_set (i := 5) scLawB.nd rfl (Or.inr rfl) (pe_frz (pe_call GBk hr4 (by rfl) gBk FBk.kp bBk .nil pass0 (pa_cons (pv 1) (pa_cons (pv 3) (pa_cons (pv 4) (pa_cons pe_int pa_nil)))))))
      (C8.pss_cut (ps_set (i := 6) scLawB.nd rfl (Or.inl rfl) (pe_lstS (pa_cons (pv 5) (pa_cons pe_non (pa_cons (pe_tupS pa_nil) (pa_cons pe_int (pa_cons dx_dict0 (pa_cons (pe_tupS (pa_cons (pv 3) (pa_cons dx_dict0 pa_nil))) (pa_cons (pe_tupS (pa_cons (pv 3) (pa_cons (pe_frz (pe_disp1 hu8 pe_str (pe_tupS pa_nil))) pa_nil))) (pa_cons pe_str (pa_cons (pe_ix ix_tup (pv 5) pe_int (fun _ _ => rfl)) pa_nil)))))))))))
      (C8.pss_cut (ps_set (i := 6) scLawB.nd rfl (Or.inl rfl) (pe_op op_cat (pv 6) (pe_lc (own := [("k", 12)]) (g := gName 12) (tt := tYes) rfl scLawB.nd (pi_range1 (by rfl) T.range (pa_cons pe_int pa_nil)) (blkOk_by (N := ["script", "pen", "turn", "base", "names", "book", "things", "odd", "at", "rows", "thing", "before", "k"]) (sc := defScope sLawB) (by decide +kernel)) (fun _ _ _ _ _ => (pg_name (i := 12) scLawB.nd rfl (Or.inl rfl))) (fun _ _ _ _ _ => pts_nil) (fun _ _ _ _ _ => (pe_lock (pe_call GBt hr (by rfl) gBt FBt.kp bBt .nil pass0 (pa_cons (pv 1) (pa_cons (pv 5) pa_nil))))))))
      (C8.pss_cut (ps_set (i := 6) scLawB.nd rfl (Or.inl rfl) (pe_op op_cat (pv 6) (pe_lc (own := [("odd", 7)]) (g := gName 7) (tt := tYes) rfl scLawB.nd (pi_list (pe_lst (dxs_cons dx_non (dxs_cons dx_int (dxs_cons dx_bl (dxs_cons dx_str (dxs_cons dx_str (dxs_cons (dx_tup dxs_nil (by show 0 ≤ sizeLine; decide)) (dxs_cons (dx_lst dxs_nil (by show 0 ≤ sizeLine; decide)) (dxs_cons (dx_tup (dxs_cons (dx_tup (dxs_cons dx_int (dxs_cons dx_int dxs_nil)) (by show 2 ≤ sizeLine; decide)) dxs_nil) (by show 1 ≤ sizeLine; decide)) (dxs_cons (dx_lst (dxs_cons (dx_tup (dxs_cons dx_str (dxs_cons (dx_tup dxs_nil (by show 0 ≤ sizeLine; decide)) dxs_nil)) (by show 2 ≤ sizeLine; decide)) dxs_nil) (by show 1 ≤ sizeLine; decide)) dxs_nil))))))))))) (blkOk_by (N := ["script", "pen", "turn", "base", "names", "book", "things", "odd", "at", "rows", "thing", "before", "k"]) (sc := defScope sLawB) (by decide +kernel)) (fun _ _ _ _ _ => (pg_name (i := 7) scLawB.nd rfl (Or.inl rfl))) (fun _ _ _ _ _ => pts_nil) (fun _ _ _ _ _ => (pe_tupS (pa_cons (pv 3) (pa_cons (pv 7) pa_nil)))))))
      (pss_cons (ps_set (i := 7) scLawB.nd rfl (Or.inl rfl) (pe_ix ix_list (pe_lst (dxs_cons dx_str (dxs_cons dx_str (dxs_cons dx_str (dxs_cons dx_str (dxs_cons dx_str (dxs_cons dx_str (dxs_cons dx_str (dxs_cons dx_str (dxs_cons dx_a9 (dxs_cons dx_int (dxs_cons dx_non (dxs_cons (dx_tup dxs_nil (by show 0 ≤ sizeLine; decide)) dxs_nil))))))))))))) (pe_call GT hr2 (by rfl) gT FT.kp bT .nil pass0 (pa_cons (pv 1) (pa_cons pe_int pa_nil))) (fun _ _ => rfl)))
      (pss_cons (ps_set (i := 8) scLawB.nd rfl (Or.inl rfl) (pe_call GT hr2 (by rfl) gT FT.kp bT .nil pass0 (pa_cons (pv 1) (pa_cons (pe_op op_add (pe_callB call_len_seq (by rfl) T.len PySem.boot_len (pa_cons (pv 4) pa_nil)) pe_int) pa_nil))))
      (pss_cons (ps_set (i := 9) scLawB.nd rfl (Or.inl rfl) (pe_slice sl_list (pe_itemsR rfl (pe_ix ix_tup (pv 5) pe_int (fun _ _ => rfl)) (by rfl) T.list boot_list) po_none (po_some (pe_op op_sub pe_int (pe_callTy call_int1 (by rfl) T.int boot_int (pa_cons (pe_cmpR op_eq (pe_callB call_len_seq (by rfl) T.len PySem.boot_len (pa_cons (pv 4) pa_nil)) pe_int (nomark _)) pa_nil))))))
      (C8.pss_cut (ps_set (i := 6) scLawB.nd rfl (Or.inl rfl) (pe_op op_cat (pv 6) (pe_lstS (pa_cons (pe_tupS (pa_cons (pv 3) (pa_cons (pe_frz (pe_disp1 hu8 (pv 7) (pe_tupS pa_nil))) pa_nil))) (pa_cons (pe_tupS (pa_cons (pv 3) (pa_cons (pe_frz (pe_callTy (call_dictP' rfl hu) (by rfl) T.dict boot_dict (pa_cons (pe_op op_cat (pe_op op_cat (pe_slice sl_list (pv 9) po_none (po_some (pv 8))) (pe_lstS (pa_cons (pe_tupS (pa_cons (pv 7) (pa_cons (pe_tupS pa_nil) pa_nil))) pa_nil))) (pe_slice sl_list (pv 9) (po_some (pv 8)) po_none)) pa_nil))) pa_nil))) pa_nil)))))
      (pss_one (ps_for PassesOwn.never rfl (pi_list (pv 6)) (pg_name (i := 10) scLawB.nd rfl (Or.inl rfl)) (pss_cons (ps_set (i := 11) scLawB.nd rfl (Or.inl rfl) (pe_callB (cr_reprX rfl hr.repr) (by rfl) T.repr boot_repr (pa_cons (pv 10) pa_nil)))
      (pss_one (ps_if (PW.pt (pw_or (pt_cmpR op_ne (pe_callB (cr_reprX rfl hr.repr) (by rfl) T.repr boot_repr (pa_cons (pe_call GIb hr4 (by rfl) gIb FIb.kp bIb .nil pass0 (pa_cons (pv 10) pa_nil)) pa_nil)) (pe_callB (cr_reprX rfl hr.repr) (by rfl) T.repr boot_repr (pa_cons (pe_call GLb hr3 (by rfl) gLb FLb.kp bLb .nil pass0 (pa_cons (pv 10) pa_nil)) pa_nil)) (nomark _)) (pw_or1 (pt_cmpR op_ne (pe_callB (cr_reprX rfl hr.repr) (by rfl) T.repr boot_repr (pa_cons (pv 10) pa_nil)) (pv 11) (nomark _))))) (pss_one (ps_ret pe_bl)) pss_nil))))))))))))))))
      (pss_one (ps_ret pe_bl)))), ?_⟩
    refine ⟨_, rfl, a, ns0, rfl, hS, hlen, fun p H1 np s1 P1 => ?_⟩
    obtain ⟨pc, C1⟩ := P1.c
    refine ⟨6, rfl, by decide, by decide, for_range (n := 6) (fun i σ H2 => ∃ (x2 x3 x4 x5 x6 x7 x8 x9 x10 x11 x12 : Option V), σ = [some (.ref a), some (.ref p), x2, x3, x4, x5, x6, x7, x8, x9, x10, x11, x12] ∧ PenC H2 p pc (10000 * i)) ⟨none, none, none, none, none, none, none, none, none, none, none, rfl, C1⟩ ?_ ?_⟩
    · rintro i σ H2 hi ⟨x2, x3, x4, x5, x6, x7, x8, x9, x10, x11, x12, rfl, C2⟩
      refine ⟨_, rfl, p, pc, 9, _, rfl, by decide, by decide, C2, by omega, fun m H3 m0 m1 b3 C3 => ?_⟩
      refine ⟨_, _, rfl, rfl, ?_⟩
      dsimp only
      generalize hb : 2 + m = b
      have b0 : 2 ≤ b := by omega
      have b1 : b ≤ 10 := by omega
      -- names
      refine ⟨_, rfl, _, rfl, p, pc, 6, _, rfl, by decide, by decide, C3, by omega, fun m2 H4 m20 m21 b4 C4 => ?_⟩
      obtain ⟨mn, rfl⟩ : ∃ c : Nat, m2 = (c : Int) := ⟨m2.toNat, by omega⟩
      refine ⟨_, _, rfl, rfl, ?_⟩
      refine ⟨p, pc, 1 + mn, _, by rw [Int.natCast_add]; rfl, by omega, C4, by omega, fun ln ns H5 nok nln b5 C5 hln => ?_⟩
      have nl : ns.length = 1 + mn := nok.len
      have n0 : ns ≠ [] := fun z => by rw [z] at nl; simp at nl; omega
      have nok' : NamesOk ns ns.length := ⟨rfl, nok.nod, nok.ok⟩
      have lnp : ln ≠ p := pen_not C4.any nln
      -- book
      refine ⟨(fun σ HA => ∃ (bk rr : Addr) (rws : List (List (Int × Str))) (kvs : List (Key × V)) (y2 : Option V), σ = [some (.ref a), some (.ref p), y2, some (.int b), some (.ref ln), some (.ref bk), x6, x7, x8, x9, x10, x11, x12] ∧ Wb w p pc bk rr ln b ns rws kvs (10000 * i + 1000) HA), ?_, ?_⟩
      · refine ⟨_, rfl, _, rfl, _, rfl, p, pc, ln, b, ns, 12, _, fun _ => none, rfl, b0, b1, n0, nok', by omega, by decide, C5, by omega, same0 _, rfl, lnp, hln, fun v rws G8 H8 m8 C8 dq8 B8 => ?_⟩
        have gp8 : G8 p = none := m8.gp rfl
        cases dq8 with
        | @tup bk _ _ gbk t8 =>
          cases t8 with
          | cons t1 t8 =>
            cases t1
            cases t8 with
            | cons t2 t3 =>
              cases t3
              cases t2 with
              | @dct rr kvs _ grr q1 q2 =>
                have hrr := m8.gh _ _ grr
                refine ⟨rr, .inl ⟨kvs, hrr, fun od df => ?_⟩⟩
                have rrp : rr ≠ p := fun z => by rw [z, gp8] at grr; cases grr
                have rrc : rr ≠ pc := fun z => by
                  obtain ⟨cells, x, y, _, g2, _⟩ := C8.ex
                  rw [← z, hrr] at g2; cases g2
                have bkr : bk ≠ rr := fun z => by rw [z, grr] at gbk; cases gbk
                have lnr : ln ≠ rr := fun z => by
                  have := m8.bt _ _ lnp hln
                  rw [z, hrr] at this; cases this
                have ag : ∀ c, c ≠ rr → upd H8 rr (.frz od (.dK kvs)) c = H8 c := fun c hc => upd_ne hc
                have so : Same (off G8 rr) (off (upd H8 rr (.frz od (.dK kvs))) p) := fun c o q => by
                  have c1 : c ≠ rr := fun z => by rw [z, off_at] at q; cases q
                  rw [off_ne c1] at q
                  have c2 : c ≠ p := fun z => by rw [z, gp8] at q; cases q
                  rw [off_ne c2, ag c c1]
                  exact m8.gh _ _ q
                have ekeys : kvs.map (·.1) = ns.map Sum.inr := by
                  refine keys_of (K := K) (G := G8) ?_
                  have e2 : ((ns.zip rws).map fun z => (PyData.str z.1, rowD z.2)).map (·.1) = ns.map PyData.str := rowsT_fst B8
                  rw [e2] at q1
                  exact q1
                refine ⟨bk, rr, rws, kvs, _, rfl, pen_agree C8 rrp rrc ag (by omega), ⟨?_, ⟨od, ?_⟩, ?_, ekeys, ?_, B8⟩, lnp, ?_, by omega⟩
                · exact so _ _ (by rw [off_ne bkr]; exact gbk)
                · rw [off_ne rrp]; exact upd_same
                · refine df_leaf df upd_same (by rw [off_ne rrp]; exact upd_same) fun x hx => ?_
                  obtain ⟨y, hy, rfl⟩ := List.mem_map.mp hx
                  exact kN_kv _ _
                · rw [zipVals B8.len] at q2
                  have nd : PyData.hasDictAll (rws.map rowD) = false := noDictRows rws
                  exact ((DxAll.of q2 nd).offK grr).mono so
                · rw [ag _ lnr]; exact m8.bt _ _ lnp hln
      rintro σ HA ⟨bk, rr, rws, kvs, y2, rfl, W⟩
      clear C1 C2 C3 C4 C5 b3 b4 b5 hln np s1 P1 nln
      have B := W.bkx.ok
      have b00 : 0 ≤ b := by omega
      -- the first things
      refine ⟨(fun σ HB => ∃ (th : Addr) (y2 : Option V), σ = [some (.ref a), some (.ref p), y2, some (.int b), some (.ref ln), some (.ref bk), some (.ref th), x7, x8, x9, x10, x11, x12] ∧ Wb w p pc bk rr ln b ns rws kvs (10000 * i + 1000) HB ∧ Th w p th 9 HB), ?_, ?_⟩
      · have C := W.pen
        have hp : HA p ≠ none := C.any.some
        refine ⟨_, rfl, (by show 0 ≤ sizeLine; decide), fun c3 Ha sa h3 => ?_⟩
        have Ca := C.same sa (Nat.le_refl _)
        refine ⟨off Ha p, off_same, fun v5 G5 H5 m5 d5 => ?_⟩
        have e5 := d5.mono (nw_off m5 Ca.any.some)
        have C5 := Ca.same m5.hh (Nat.le_refl _)
        refine ⟨_, rfl, off H5 p, off_same, fun v6 G6 H6 m6 d6 => ⟨(by show 2 ≤ sizeLine; decide), fun c6 Hb sb h6 => ?_⟩⟩
        have e6 := d6.mono (nw_off m6 C5.any.some)
        have C6 := C5.same m6.hh (Nat.le_refl _)
        have Cb := C6.same sb (Nat.le_refl _)
        refine ⟨_, rfl, fun dp ndp => ⟨(by show 0 ≤ sizeLine; decide), fun e7 Hc sc h7 => ?_⟩⟩
        have dpp : dp ≠ p := pen_not Cb.any ndp
        have dpc : dp ≠ pc := fun z => Cb.at_c (by rw [← z]; exact ndp)
        refine ⟨.text "a", sc _ _ upd_same, .str "a", by decide, fun Hd agd dn => ?_⟩
        obtain ⟨es, ep, g1, g2⟩ := dn
        refine ⟨dp, .inr ⟨_, es, ep, g1, g2, fun od df => ⟨(by show 2 ≤ sizeLine; decide), fun c7 He se h7t => ?_⟩⟩⟩
        have sbe : Same Hb He := fun c o q => by
          have cd : c ≠ dp := ne_of_none q ndp
          refine se _ _ ?_
          rw [upd_ne cd, agd c cd]
          exact sc _ _ (by rw [upd_ne cd]; exact q)
        have Ce := Cb.same sbe (Nat.le_refl _)
        have e7d : e7 ≠ dp := fun z => by rw [z, sc _ _ upd_same] at h7; cases h7
        have h7e : He e7 = some (.tup []) := se _ _ (by rw [upd_ne e7d, agd _ e7d]; exact h7)
        have x7 : DX w p SB He (.ref c7) := dict_new b00 b1 Ce dpp df se (fun x hx => by
          rw [List.mem_singleton.mp hx]
          exact ⟨⟨.str "a", .str _, s1_text (by decide +kernel), fun y e => by cases e; exact ⟨by rw [sizeLine_eq]; decide +kernel, by decide +kernel⟩⟩, .tuple [], .tup (tup_off Ce h7e) .nil, sz_e.up (by decide) (by decide)⟩) (by show 1 ≤ 10; decide) h7t
        have s5e := (m6.hh.trans sb).trans sbe
        have sae := m5.hh.trans s5e
        have sAe := sa.trans sae
        have We := W.same sAe
        refine ⟨_, rfl, bk, _, 1, .ref rr, rfl, rfl, SqT.of (off_same _ _ We.bkx.hb), atI_nat (j := 1) rfl, ?_⟩
        refine ⟨(by show 9 ≤ sizeLine; decide), fun th Hf sf nf hf => ?_⟩
        have Cf := Ce.same sf (Nat.le_refl _)
        have Wf := We.same sf
        have zb := s1_int b00 b1
        refine ⟨th, _, rfl, Wf, ⟨_, hf, pen_not Ce.any nf, by show 9 ≤ 9; decide, fun v hv => ?_⟩⟩
        have zk : Sz 16700000 8 (bookD b ns rws) := (Sz.shw (shw_book B)).up (by decide) (by decide)
        simp only [List.mem_cons, List.not_mem_nil, or_false] at hv
        rcases hv with rfl | rfl | rfl | rfl | rfl | rfl | rfl | rfl | rfl
        · exact ⟨_, Wf.bkx.book, zk, fine_rows B⟩
        · exact ⟨_, .non, sb_small ((odd_s1 _ (by simp [oddsD])).up (by decide) (by decide)) fun _ _ e => nomatch e⟩
        · exact ⟨.tuple [], .tup (tup_off Cf (sf _ _ (sae _ _ h3))) .nil, sb_small (sz_e.up (by decide) (by decide)) fun _ _ e => by injection e with e; cases e⟩
        · exact ⟨_, .int 0, sb_small ((s1_sm (by decide)).up (by decide) (by decide)) fun _ _ e => nomatch e⟩
        · exact ⟨_, (e5.mono (off_of s5e)).mono (off_of sf), sb_small ((odd_s1 (.dict []) (by simp [oddsD])).up (by decide) (by decide)) fun _ _ e => nomatch e⟩
        · refine ⟨_, .tup (tup_off Cf (sf _ _ (sbe _ _ h6))) (.cons (.int b) (.cons (((e6.mono (off_of sb)).mono (off_of sbe)).mono (off_of sf)) .nil)), (sz_tup (B := 2000) (k := 1) (n := 2) (fun x hx => by
            rcases List.mem_cons.mp hx with rfl | hx
            · exact zb
            · rw [List.mem_singleton.mp hx]; exact odd_s1 (.dict []) (by simp [oddsD])) (by show 2 ≤ 2; decide)).up (by decide) (by decide), fun b' ds' e k' hk' => ?_⟩
          injection e with e
          injection e with _ e
          injection e with e
          injection e with e
          subst e
          exact absurd hk' List.not_mem_nil
        · exact x7.but (But.of sf)
        · exact ⟨_, .str _, sb_small ((s1_text (by decide +kernel)).up (by decide) (by decide)) fun _ _ e => nomatch e⟩
        · exact ⟨_, Wf.bkx.rows, (sz_rows B).up (by decide) (by decide), fine_no fun _ _ e => nomatch e⟩
      rintro σ HB ⟨th, y2', rfl, WB, TB⟩
      clear W
      -- bent books
      refine ⟨(fun σ HC => ∃ (th : Addr) (y2 : Option V), σ = [some (.ref a), some (.ref p), y2, some (.int b), some (.ref ln), some (.ref bk), some (.ref th), x7, x8, x9, x10, x11, x12] ∧ Wb w p pc bk rr ln b ns rws kvs (10000 * i + 2000) HC ∧ Th w p th 15 HC), ?_, ?_⟩
      · refine ⟨_, rfl, 6, rfl, by decide, by decide, fun D nD => ?_⟩
        have Dp : D ≠ p := pen_not WB.pen.any nD
        have Dc : D ≠ pc := fun z => WB.pen.at_c (by rw [← z]; exact nD)
        have ag0 : ∀ c, c ≠ D → upd HB D (.lst []) c = HB c := fun c hc => upd_ne hc
        refine lc_it (walk_range (lo := 0) (n := 6)) (fun j Hi => j ≤ 6 ∧ PenC Hi p pc (10000 * i + 1000 + 20 * j) ∧ But p HB Hi ∧ Bkx w p bk rr b ns rws kvs (off Hi D) ∧ ∃ ys : List V, Hi D = some (.lst ys) ∧ ys.length = j ∧ ∀ y ∈ ys, DX w p SB (off Hi D) y)
          ⟨Nat.zero_le _, pen_agree WB.pen Dp Dc ag0 (Nat.le_refl _), But.of (Same.upd nD), WB.bkx.but (But.of (same_offD nD ag0)), [], upd_same, rfl, fun _ h => nomatch h⟩ (fun _ _ _ _ => trivial) ?_ ?_
        · rintro j x Hi Hj hj ⟨_, Pi, bi, Bi, ys, hD, yl, hy⟩ ⟨rfl, hx⟩
          refine ⟨rfl, ?_⟩
          refine ⟨D, .lst ys, hD, trivial, fun od => ?_⟩
          have agL : ∀ c, c ≠ D → upd Hj D (.frz od (.lst ys)) c = Hj c := fun c hc => upd_ne hc
          have oL : But p (off Hj D) (upd Hj D (.frz od (.lst ys))) := fun c o _ q => by
            have z : c ≠ D := fun z => by rw [z, off_at] at q; cases q
            rw [off_ne z] at q
            rw [agL c z]; exact q
          refine ⟨_, rfl, _, rfl, p, pc, bk, rr, b, ns, rws, kvs, _, rfl, pen_agree Pi Dp Dc agL (Nat.le_refl _), by omega, Bi.but oL, WB.n6, fun v H' bL P' dv => ?_⟩
          have hDf : H' D = some (.frz od (.lst ys)) := bL _ _ Dp upd_same
          refine ⟨hDf, ys, upd_same, by rw [sizeLine_eq]; omega, ?_⟩
          have ag : ∀ c, c ≠ D → upd (upd H' D (.lst ys)) D (.lst (ys ++ [v])) c = H' c := fun c hc => by rw [upd_ne hc, upd_ne hc]
          generalize hHn : upd (upd H' D (.lst ys)) D (.lst (ys ++ [v])) = Hn at ag
          have st : ∀ c o, c ≠ p → c ≠ D → Hj c = some o → Hn c = some o := fun c o h1 h2 q => by
            rw [ag c h2]
            exact bL c o h1 (by rw [agL c h2]; exact q)
          refine ⟨by omega, pen_agree P' Dp Dc ag (by omega), fun c o h1 q => st c o h1 (ne_of_none q nD) (bi c o h1 q), Bi.but (but_off st), ys ++ [v], by rw [← hHn]; exact upd_same, by rw [List.length_append, yl]; rfl, fun y hyy => ?_⟩
          rcases List.mem_append.mp hyy with h | h
          · exact (hy y h).but (but_off st)
          · rw [List.mem_singleton.mp h]
            obtain ⟨d, dx, sd⟩ := dv
            exact ⟨d, (dx.offL (a := D) (od := od) (xs := ys) (by rw [off_ne Dp]; exact hDf)).mono (off_comm ag), sd⟩
        · rintro Hi ⟨_, Pi, bi, Bi, ys, hD, yl, hy⟩
          obtain ⟨vs, g1, g2, g3, g4⟩ := (TB.but bi).ex
          refine ⟨th, D, vs, ys, rfl, rfl, g1, hD, by rw [sizeLine_eq]; omega, fun q nq => ?_⟩
          have sq : Same Hi (upd Hi q (.lst (vs ++ ys))) := Same.upd nq
          refine ⟨q, _, rfl, WB.but (bi.trans (But.of sq)) (Pi.same sq (by omega)), ⟨_, upd_same, pen_not Pi.any nq, by rw [List.length_append]; omega, fun v hv => ?_⟩⟩
          rcases List.mem_append.mp hv with h | h
          · exact (g4 v h).but (But.of sq)
          · exact (hy v h).but ((But.of off_same).trans (But.of sq))
      rintro σ HC ⟨th2, y3, rfl, WC, TC⟩
      clear WB TB
      -- the base and something
      refine ⟨(fun σ HD => ∃ (th : Addr) (y2 : Option V), σ = [some (.ref a), some (.ref p), y2, some (.int b), some (.ref ln), some (.ref bk), some (.ref th), x7, x8, x9, x10, x11, x12] ∧ Wb w p pc bk rr ln b ns rws kvs (10000 * i + 2000) HD ∧ Th w p th 24 HD), ?_, ?_⟩
      · refine ⟨_, rfl, off HC p, off_same, fun vs1 G1 H1 m1 d1 => ⟨by rw [d1.len]; decide, fun l nl1 => ?_⟩⟩
        have hpC : HC p ≠ none := WC.pen.any.some
        have s1 : Same HC (upd H1 l (.lst vs1)) := m1.hh.trans (Same.upd nl1)
        have hl1 : (upd H1 l (.lst vs1)) l = some (.lst vs1) := upd_same
        have e1 := (d1.mono (nw_off m1 hpC)).mono (off_of (Same.upd (o := .lst vs1) nl1))
        have W1 := WC.same s1
        have T1 := TC.but (But.of s1)
        have ln1 : vs1.length = 9 := d1.len
        generalize upd H1 l (.lst vs1) = H2' at s1 hl1 e1 W1 T1
        refine ⟨l, rfl, ⟨_, SqL.of hl1⟩, fun D nD => ?_⟩
        have Dp : D ≠ p := pen_not W1.pen.any nD
        have Dc : D ≠ pc := fun z => W1.pen.at_c (by rw [← z]; exact nD)
        refine lc_it (walk_list (K := K) (a := l) (xs := vs1)) (fun j Hi => Same H2' Hi ∧ ∃ ys : List V, Hi D = some (.lst ys) ∧ ys.length = j ∧ ∀ y ∈ ys, DX w p SB (off Hi D) y)
          ⟨Same.upd nD, [], upd_same, rfl, fun _ h => nomatch h⟩ (fun j Hi _ q => SqL.of (q.1 _ _ hl1)) ?_ ?_
        · rintro j x Hi Hj hj ⟨si, ys, hD, yl, hy⟩ ⟨rfl, hx⟩
          refine ⟨rfl, ?_⟩
          refine ⟨_, rfl, _, rfl, (by show 2 ≤ sizeLine; decide), fun q Hk sk hq => ?_⟩
          have hDk := sk _ _ hD
          have qD : q ≠ D := fun z => by rw [z, hDk] at hq; cases hq
          refine ⟨ys, hDk, by rw [sizeLine_eq]; omega, ?_⟩
          have ag : ∀ c, c ≠ D → upd Hk D (.lst (ys ++ [.ref q])) c = Hk c := fun c hc => upd_ne hc
          have st : ∀ c o, c ≠ p → c ≠ D → Hj c = some o → upd Hk D (.lst (ys ++ [.ref q])) c = some o := fun c o h1 h2 g => by rw [ag c h2]; exact sk _ _ g
          refine ⟨fun c o g => ?_, ys ++ [.ref q], upd_same, by rw [List.length_append, yl]; rfl, fun y hyy => ?_⟩
          · have cD : c ≠ D := ne_of_none g nD
            rw [ag c cD]; exact sk _ _ (si _ _ g)
          · rcases List.mem_append.mp hyy with h | h
            · exact (hy y h).but (but_off st)
            · rw [List.mem_singleton.mp h]
              obtain ⟨d, ed, dx⟩ := e1.get hx
              have din := List.mem_of_getElem? ed
              obtain ⟨z1, z2⟩ := oddL_ok d din
              have qp : q ≠ p := fun z => by
                have := tup_off ((W1.pen.same si (Nat.le_refl _)).same sk (Nat.le_refl _)) hq
                rw [z, off_at] at this; cases this
              have so : Same (off H2' p) (off (off (upd Hk D (.lst (ys ++ [.ref q]))) D) p) := fun c o g => by
                have cp : c ≠ p := fun z => by rw [z, off_at] at g; cases g
                rw [off_ne cp] at g
                have cD : c ≠ D := ne_of_none g nD
                rw [off_ne cp, off_ne cD, ag c cD]; exact sk _ _ (si _ _ g)
              exact ⟨.tuple [.int b, d], .tup (by rw [off_ne qp, off_ne qD, ag q qD]; exact hq) (.cons (.int b) (.cons (dx.mono so) .nil)), sb_pair b00 b1 z1 z2⟩
        · rintro Hi ⟨si, ys, hD, yl, hy⟩
          have l9 : ys.length = 9 := by rw [yl, ln1]
          obtain ⟨vs, g1, g2, g3, g4⟩ := (T1.but (But.of si)).ex
          refine ⟨th2, D, vs, ys, rfl, rfl, g1, hD, by rw [sizeLine_eq]; omega, fun q nq => ?_⟩
          have sq : Same Hi (upd Hi q (.lst (vs ++ ys))) := Same.upd nq
          have Wi := W1.same si
          refine ⟨q, _, rfl, Wi.same sq, ⟨_, upd_same, pen_not Wi.pen.any nq, by rw [List.length_append]; omega, fun v hv => ?_⟩⟩
          rcases List.mem_append.mp hv with h | h
          · exact (g4 v h).but (But.of sq)
          · exact (hy v h).but ((But.of off_same).trans (But.of sq))
      rintro σ HD ⟨th3, y4, rfl, WD, TD⟩
      clear WC TC
      -- a key that is odd, a place, rows
      have CD := WD.pen
      have hpD : HD p ≠ none := CD.any.some
      refine ⟨off HD p, off_same, fun vs2 G2 H1 m1 d1 => ⟨by rw [d1.len]; decide, fun l nl1 => ?_⟩⟩
      have s1 : Same HD (upd H1 l (.lst vs2)) := m1.hh.trans (Same.upd nl1)
      have hl1 : (upd H1 l (.lst vs2)) l = some (.lst vs2) := upd_same
      have e1 := (d1.mono (nw_off m1 hpD)).mono (off_of (Same.upd (o := .lst vs2) nl1))
      have lp : l ≠ p := fun z => hpD (m1.hh.free (z ▸ nl1))
      have W1 := WD.same s1
      have T1 := TD.but (But.of s1)
      generalize upd H1 l (.lst vs2) = H2' at s1 hl1 e1 W1 T1
      refine ⟨_, rfl, p, pc, 12, _, rfl, by decide, by decide, W1.pen, by omega, fun ix H3 i0 i1 b3 C3 => ?_⟩
      obtain ⟨v7, d7, g1, g2, g3⟩ := dx_at (e1.mono (off_but b3)) i0 (by show ix < 12; exact i1)
      refine ⟨l, _, _, v7, rfl, rfl, SqL.of (b3 _ _ lp hl1), g1, ?_⟩
      have W3 := W1.but b3 C3
      have T3 := T1.but b3
      have nl0 : 0 < ns.length := List.length_pos_iff.mpr B.n0
      refine ⟨_, rfl, _, rfl, ln, _, rfl, .inl (SqL.of W3.hln), _, _, rfl, rfl, p, pc, _, _, rfl, by rw [List.length_map]; omega, by rw [List.length_map]; exact small_int (by omega) (by have := W3.n6; omega), C3, by omega, fun at' H4 a0 a1 b4 C4 => ?_⟩
      have W4 := W3.but b4 C4
      have T4 := T3.but b4
      have g4 := g3.mono (off_but b4)
      refine ⟨_, rfl, bk, _, 1, .ref rr, rfl, rfl, SqT.of (off_same _ _ W4.bkx.hb), atI_nat (j := 1) rfl, rr, kvs, rfl, W4.bkx.rd, fun H5 il ts s5 nil5 hil pr => ?_⟩
      have W5 := W4.same s5
      have T5 := T4.but (But.of s5)
      have g5 := g4.mono (off_of s5)
      have fk5 := W5.bkx.fak
      have kl5 : kvs.length ≤ 6 := by rw [W5.bkx.len]; exact W5.n6
      obtain ⟨zs, rfl, ekv, hzs⟩ := paired_zs2 pr
      rw [List.map_map] at hil
      refine ⟨_, rfl, ln, _, rfl, .inl (SqL.of W5.hln), rfl, .inr ⟨_, rfl, _, _, rfl, rfl, _, rfl, il, _, rfl, SqL.of hil, fun ra nra => ?_⟩⟩
      obtain ⟨zr, ezr, mzr, lzr⟩ := cut_map (V.ref ∘ Prod.fst) zs none (some (6 - if decide (V.int ((ns.map V.str).length : Int) = V.int 6) = true then 1 else 0))
      rw [ezr]
      have lzs : zs.length ≤ 6 := by rw [ekv, List.length_map] at kl5; exact kl5
      have s6 : Same H5 (upd H5 ra (.lst (zr.map (V.ref ∘ Prod.fst)))) := Same.upd nra
      have hra : (upd H5 ra (.lst (zr.map (V.ref ∘ Prod.fst)))) ra = some (.lst (zr.map (V.ref ∘ Prod.fst))) := upd_same
      have W6 := W5.same s6
      have T6 := T5.but (But.of s6)
      have g6 := g5.mono (off_of s6)
      have fk6 := fk5.mono (off_of s6)
      have hz6 : ∀ z ∈ zr, (upd H5 ra (.lst (zr.map (V.ref ∘ Prod.fst)))) z.1 = some (.tup [kV z.2.1, z.2.2]) := fun z hz => s6 _ _ (hzs z (mzr z hz))
      have fz6 : ∀ z ∈ zr, (∃ d, Dx w (off (upd H5 ra (.lst (zr.map (V.ref ∘ Prod.fst)))) p) (kV z.2.1) d ∧ S1 d ∧ StrOk d) ∧ ∃ d, Dx w (off (upd H5 ra (.lst (zr.map (V.ref ∘ Prod.fst)))) p) z.2.2 d ∧ SR d := fun z hz => fk6 z.2 (by rw [ekv]; exact List.mem_map.mpr ⟨z, mzr z hz, rfl⟩)
      have lz6 : zr.length ≤ 6 := by omega
      generalize upd H5 ra (.lst (zr.map (V.ref ∘ Prod.fst))) = H6 at hra W6 T6 g6 hz6 fz6
      clear hzs ekv mzr lzr fk6 fk5 kl5 ezr lzs W5 W4 W3 W1 T5 T4 T3 T1 e1 d1 m1 s1 s5 s6 hl1 b3 b4 C3 C4 CD hpD nl1 lp g1 g3 g4 g5 WD TD hil nil5 pr nra
      obtain ⟨z7, z8⟩ := oddK_ok d7 g2
      -- the last two things
      refine ⟨(fun σ HE => ∃ (th : Addr) (y2 y7 y8 y9 : Option V), σ = [some (.ref a), some (.ref p), y2, some (.int b), some (.ref ln), some (.ref bk), some (.ref th), y7, y8, y9, x10, x11, x12] ∧ PenC HE p pc (10000 * i + 3000) ∧ Th w p th 26 HE), ?_, ?_⟩
      · have Cb := W6.pen
        refine ⟨_, rfl, _, rfl, fun dp ndp => ⟨_, rfl, (by show 0 ≤ sizeLine; decide), fun e7 Hc sc h7 => ?_⟩⟩
        have dpp : dp ≠ p := pen_not Cb.any ndp
        obtain ⟨k7, hk7, h87⟩ := key_oddK (g6.mono off_same) g2
        refine ⟨k7, sc _ _ upd_same, hk7.up (fun c xs q => sc _ _ (by rw [upd_ne (ne_of_none q ndp)]; exact q)), h87, fun Hd agd dn => ?_⟩
        obtain ⟨es, ep, q1, q2⟩ := dn
        refine ⟨dp, .inr ⟨_, es, ep, q1, q2, fun od df => ⟨(by show 2 ≤ sizeLine; decide), fun c7 He se h7t => ?_⟩⟩⟩
        have sbe : Same H6 He := fun c o q => by
          have cd : c ≠ dp := ne_of_none q ndp
          refine se _ _ ?_
          rw [upd_ne cd, agd c cd]
          exact sc _ _ (by rw [upd_ne cd]; exact q)
        have Ce := Cb.same sbe (Nat.le_refl _)
        have e7d : e7 ≠ dp := fun z => by rw [z, sc _ _ upd_same] at h7; cases h7
        have h7e : He e7 = some (.tup []) := se _ _ (by rw [upd_ne e7d, agd _ e7d]; exact h7)
        have x7' : DX w p SB He (.ref c7) := dict_new b00 b1 Ce dpp df se (fun x hx => by
          rw [List.mem_singleton.mp hx]
          exact ⟨⟨d7, g6.mono (off_of sbe), z7, z8⟩, .tuple [], .tup (tup_off Ce h7e) .nil, sz_e.up (by decide) (by decide)⟩) (by show 1 ≤ 10; decide) h7t
        have ge := g6.mono (off_of sbe)
        have hrae := sbe _ _ hra
        have hze : ∀ z ∈ zr, He z.1 = some (.tup [kV z.2.1, z.2.2]) := fun z hz => sbe _ _ (hz6 z hz)
        have Te := T6.but (But.of sbe)
        have We := W6.same sbe
        have fze : ∀ z ∈ zr, (∃ d, Dx w (off He p) (kV z.2.1) d ∧ S1 d ∧ StrOk d) ∧ ∃ d, Dx w (off He p) z.2.2 d ∧ SR d := fun z hz => by
          obtain ⟨⟨d, r1, r2⟩, d', r3, r4⟩ := fz6 z hz
          exact ⟨⟨d, r1.mono (off_of sbe), r2⟩, d', r3.mono (off_of sbe), r4⟩
        clear sbe se sc q1 q2 agd df dpp hra hz6 T6 W6 fz6 g6 h7 h7e Cb ndp hk7 h7t
        -- rows[:at] + [(odd, ())] + rows[at:]
        refine ⟨_, rfl, _, rfl, _, rfl, _, rfl, ra, _, rfl, SqL.of hrae, fun r1 nr1 => ?_⟩
        obtain ⟨za, eza, mza, lza⟩ := cut_map (V.ref ∘ Prod.fst) zr none (some at')
        rw [eza]
        have t1 : Same He (upd He r1 (.lst (za.map (V.ref ∘ Prod.fst)))) := Same.upd nr1
        have hr1' : (upd He r1 (.lst (za.map (V.ref ∘ Prod.fst)))) r1 = some (.lst (za.map (V.ref ∘ Prod.fst))) := upd_same
        generalize upd He r1 (.lst (za.map (V.ref ∘ Prod.fst))) = Hg at t1 hr1'
        refine ⟨_, rfl, (by show 0 ≤ sizeLine; decide), fun e8 Hh t2 h8 => ⟨(by show 2 ≤ sizeLine; decide), fun c8 Hi t3 h8c => ⟨(by show 1 ≤ sizeLine; decide), fun l8 Hj t4 _ h8l => ?_⟩⟩⟩
        refine ⟨r1, l8, _, _, rfl, rfl, t4 _ _ (t3 _ _ (t2 _ _ hr1')), h8l, by rw [List.length_map, sizeLine_eq]; show za.length + 1 ≤ _; omega, fun r2 nr2 => ?_⟩
        have t5 : Same Hj (upd Hj r2 (.lst (za.map (V.ref ∘ Prod.fst) ++ [.ref c8]))) := Same.upd nr2
        have hr2' : (upd Hj r2 (.lst (za.map (V.ref ∘ Prod.fst) ++ [.ref c8]))) r2 = some (.lst (za.map (V.ref ∘ Prod.fst) ++ [.ref c8])) := upd_same
        generalize upd Hj r2 (.lst (za.map (V.ref ∘ Prod.fst) ++ [.ref c8])) = Hl at t5 hr2'
        have tel := (((t1.trans t2).trans t3).trans t4).trans t5
        refine ⟨_, rfl, _, rfl, _, rfl, ra, _, rfl, SqL.of (tel _ _ hrae), fun r3 nr3 => ?_⟩
        obtain ⟨zb, ezb, mzb, lzb⟩ := cut_map (V.ref ∘ Prod.fst) zr (some at') none
        rw [ezb]
        have t6 : Same Hl (upd Hl r3 (.lst (zb.map (V.ref ∘ Prod.fst)))) := Same.upd nr3
        have hr3' : (upd Hl r3 (.lst (zb.map (V.ref ∘ Prod.fst)))) r3 = some (.lst (zb.map (V.ref ∘ Prod.fst))) := upd_same
        generalize upd Hl r3 (.lst (zb.map (V.ref ∘ Prod.fst))) = Hm at t6 hr3'
        refine ⟨r2, r3, _, _, rfl, rfl, t6 _ _ hr2', hr3', by rw [List.length_append, List.length_map, List.length_map, sizeLine_eq]; show za.length + 1 + zb.length ≤ _; omega, fun r4 nr4 => ?_⟩
        have t7 : Same Hm (upd Hm r4 (.lst (za.map (V.ref ∘ Prod.fst) ++ [.ref c8] ++ zb.map (V.ref ∘ Prod.fst)))) := Same.upd nr4
        have hr4' : (upd Hm r4 (.lst (za.map (V.ref ∘ Prod.fst) ++ [.ref c8] ++ zb.map (V.ref ∘ Prod.fst)))) r4 = some (.lst (za.map (V.ref ∘ Prod.fst) ++ [.ref c8] ++ zb.map (V.ref ∘ Prod.fst))) := upd_same
        generalize upd Hm r4 (.lst (za.map (V.ref ∘ Prod.fst) ++ [.ref c8] ++ zb.map (V.ref ∘ Prod.fst))) = Hn at t7 hr4'
        have ten := (tel.trans t6).trans t7
        have t8n := (((t4.trans t5).trans t6).trans t7)
        have Cn := Ce.same ten (Nat.le_refl _)
        obtain ⟨k8, hk8, h88⟩ := key_oddK ((ge.mono (off_of ten)).mono off_same) g2
        let zz : List (Addr × Kvv) := za.map (fun z => (z.1, kN z.2.1, kV z.2.1, z.2.2)) ++ [(c8, k8, v7, .ref e8)] ++ zb.map (fun z => (z.1, kN z.2.1, kV z.2.1, z.2.2))
        have ezz : zz.map (fun z => V.ref z.1) = za.map (V.ref ∘ Prod.fst) ++ [.ref c8] ++ zb.map (V.ref ∘ Prod.fst) := by
          show (za.map (fun z => (z.1, kN z.2.1, kV z.2.1, z.2.2)) ++ [(c8, k8, v7, V.ref e8)] ++ zb.map (fun z => (z.1, kN z.2.1, kV z.2.1, z.2.2))).map (fun z : Addr × Kvv => V.ref z.1) = _
          rw [List.map_append, List.map_append, List.map_map, List.map_map]; rfl
        have lab : za.length + zb.length ≤ zr.length := by
          have h1 := cut_len (xs := zr.map (V.ref ∘ Prod.fst)) a0
          rw [eza, ezb, List.length_map, List.length_map, List.length_map] at h1
          exact h1
        have lzz : zz.length ≤ 7 := by
          show (za.map _ ++ [_] ++ zb.map _).length ≤ 7
          rw [List.length_append, List.length_append, List.length_map, List.length_map, List.length_singleton]; omega
        have mem : ∀ z ∈ zz, (∃ y ∈ zr, z = (y.1, kN y.2.1, kV y.2.1, y.2.2)) ∨ z = (c8, k8, v7, .ref e8) := by
          intro z hz
          rcases List.mem_append.mp hz with hz | hz
          · rcases List.mem_append.mp hz with hz | hz
            · obtain ⟨y, hy, rfl⟩ := List.mem_map.mp hz
              exact .inl ⟨y, mza y hy, rfl⟩
            · exact .inr (List.mem_singleton.mp hz)
          · obtain ⟨y, hy, rfl⟩ := List.mem_map.mp hz
            exact .inl ⟨y, mzb y hy, rfl⟩
        clear_value zz
        refine ⟨r4, zz, rfl, SqL.of (by rw [ezz]; exact hr4'), by omega, fun z hz => ?_, fun dq Hp' ndq agq dnq => ?_⟩
        · rcases mem z hz with ⟨y, hy, rfl⟩ | rfl
          · exact ⟨ten _ _ (hze y hy), kN_kv _ _, kN_depth _⟩
          · exact ⟨t8n _ _ h8c, hk8, h88⟩
        obtain ⟨es2, ep2, u1, u2⟩ := dnq
        refine ⟨dq, .inr ⟨_, es2, ep2, u1, u2, fun od2 df2 => ⟨(by show 2 ≤ sizeLine; decide), fun c9 Hq tq h9 => ?_⟩⟩⟩
        have dqp : dq ≠ p := pen_not Cn.any ndq
        have snq : Same Hn Hq := fun c o q => by
          have cd : c ≠ dq := ne_of_none q ndq
          refine tq _ _ ?_
          rw [upd_ne cd, agq c cd]; exact q
        have Cq := Cn.same snq (Nat.le_refl _)
        have teq := ten.trans snq
        have e8e : Hq e8 = some (.tup []) := snq _ _ (t8n _ _ (t3 _ _ h8))
        have fa : Fa w (off Hq p) (zz.map (·.2)) := fun x hx => by
          obtain ⟨z, hz, rfl⟩ := List.mem_map.mp hx
          rcases mem z hz with ⟨y, hy, rfl⟩ | rfl
          · obtain ⟨⟨d, w1, w2⟩, d', w3, w4⟩ := fze y hy
            exact ⟨⟨d, w1.mono (off_of teq), w2⟩, d', w3.mono (off_of teq), w4⟩
          · exact ⟨⟨d7, ge.mono (off_of teq), z7, z8⟩, .tuple [], .tup (tup_off Cq e8e) .nil, sz_e.up (by decide) (by decide)⟩
        have x9' : DX w p SB Hq (.ref c9) := dict_new b00 b1 Cq dqp df2 tq ((Fa.puts (acc := []) (fun _ h => nomatch h) fa)) (by
          have lk : ∀ l : List (Addr × Kvv), (putsN [] (l.map (·.2))).length ≤ l.length := fun l => by
            have := putsN_len (l.map (·.2)) []
            rw [List.length_map, List.length_nil] at this; omega
          have := lk zz; omega) h9
        refine ⟨(by show 2 ≤ sizeLine; decide), fun l9 Hr tr _ h9l => ?_⟩
        have Cr := Cq.same tr (Nat.le_refl _)
        obtain ⟨vs, w1, w2, w3, w4⟩ := (Te.but (But.of (teq.trans tr))).ex
        refine ⟨th3, l9, vs, _, rfl, rfl, w1, h9l, by rw [sizeLine_eq]; show vs.length + 2 ≤ _; omega, fun q nq => ?_⟩
        have sq : Same Hr (upd Hr q (.lst (vs ++ [.ref c7, .ref c9]))) := Same.upd nq
        refine ⟨q, _, _, _, _, rfl, Cr.same sq (by omega), ⟨_, upd_same, pen_not Cr.any nq, by rw [List.length_append]; show vs.length + 2 ≤ 26; omega, fun v hv => ?_⟩⟩
        rcases List.mem_append.mp hv with h | h
        · exact (w4 v h).but (But.of sq)
        · simp only [List.mem_cons, List.not_mem_nil, or_false] at h
          rcases h with rfl | rfl
          · exact x7'.but (But.of ((teq.trans tr).trans sq))
          · exact x9'.but (But.of (tr.trans sq))
      rintro σ HE ⟨th4, y2, y7, y8, y9, rfl, CE, TE⟩
      obtain ⟨vs, hth, thp, vl, hvs⟩ := TE.ex
      refine ⟨_, rfl, th4, rfl, ⟨_, SqL.of hth⟩, for_it (walk_list (K := K) (a := th4) (xs := vs)) (fun j σ Ho => ∃ (x10 x11 : Option V), σ = [some (.ref a), some (.ref p), y2, some (.int b), some (.ref ln), some (.ref bk), some (.ref th4), y7, y8, y9, x10, x11, x12] ∧ Same HE Ho) ⟨_, _, rfl, Same.refl _⟩ ?_ ?_ ?_⟩
      · rintro j σ Ho hj ⟨_, _, _, so⟩
        exact SqL.of (so _ _ hth)
      · rintro j x σ Ho Ho' hj ⟨x10, x11, rfl, so⟩ ⟨rfl, hx⟩
        obtain ⟨d, dx, sd, fd⟩ := (hvs x (List.mem_of_getElem? hx)).but (But.of so)
        have dx' := dx.mono off_same
        have dp : d.depth ≤ 100 := by have := sd.dp; omega
        have sz : d.shown.length ≤ sizeLine := by have := sd.ln; rw [sizeLine_eq]; omega
        refine ⟨_, rfl, x, d, rfl, dx', sd.sh, dp, sz, ?_⟩
        have lb : ∀ q : Bool, (PyData.bool q).shown.length ≤ sizeLine := fun q => by cases q <;> (rw [sizeLine_eq]; decide +kernel)
        refine ⟨_, rfl, x, d, rfl, dx', fd, fun H7 s7 => ?_⟩
        refine ⟨.bl (isBookD d), .bool (isBookD d), rfl, .bl _, by simp only [PyData.showable], by simp only [PyData.depth]; omega, lb _, ?_⟩
        refine ⟨_, rfl, x, d, rfl, dx'.mono s7, fd, fun H8 s8 => ?_⟩
        refine ⟨.bl (isBookD d), .bool (isBookD d), rfl, .bl _, by simp only [PyData.showable], by simp only [PyData.depth]; omega, lb _, ?_⟩
        refine ⟨rfl, _, rfl, ifF (by simp) ?_⟩
        refine ⟨_, rfl, x, d, rfl, dx'.mono (s7.trans s8), sd.sh, dp, sz, _, rfl, rfl, _, rfl, ifF (by simp) ?_⟩
        exact ⟨_, _, rfl, so.trans (s7.trans s8)⟩
      · rintro σ Ho ⟨x10, x11, rfl, so⟩
        exact ⟨_, _, _, _, _, _, _, _, _, _, _, rfl, CE.same so (by omega)⟩
    · rintro σ H2 ⟨x2, x3, x4, x5, x6, x7, x8, x9, x10, x11, x12, rfl, C2⟩
      exact k H2
end
end My

namespace My
open PySem PySem.Spec PyProof.Rows L2
theorem all_mk {l : PySem.W.OpenLaw} {w : World} {K : PySem.W.Frag} {h : Heap} {mg : Str → Option Value} {fa f1 f2 f3 f4 f5 f6 f7 f8 f9 f10 f11 f12 f13 f14 f15 f16 f17 f18 f19 f20 f21 f22 : Addr} (X : K.In h) (G : h.Ns mainGlobals mg) (hfa : mg "law" = some (.ref fa))
    {od1 an1 od2 an2 od3 an3 od4 an4 od5 an5 od6 an6 od7 an7 od8 an8 od9 an9 od10 an10 od11 an11 od12 an12 od13 an13 od14 an14 od15 an15 od16 an16 od17 an17 od18 an18 od19 an19 od20 an20 od21 an21 od22 an22 : Option Addr} {sl1 sl2 sl3 sl4 sl5 sl6 sl7 sl8 sl9 sl10 sl11 sl12 sl13 sl14 sl15 sl16 sl17 sl18 sl19 sl20 sl21 sl22 : Array (Option Value)} {oc1 kV1 dc1 pm1 cd1 ct1 oc2 kV2 dc2 pm2 cd2 ct2 oc3 kV3 dc3 pm3 cd3 ct3 oc4 kV4 dc4 pm4 cd4 ct4 oc5 kV5 dc5 pm5 cd5 ct5 oc6 kV6 dc6 pm6 cd6 ct6 oc7 kV7 dc7 pm7 cd7 ct7 oc8 kV8 dc8 pm8 cd8 ct8 oc9 kV9 dc9 pm9 cd9 ct9 oc10 kV10 dc10 pm10 cd10 ct10 oc11 kV11 dc11 pm11 cd11 ct11 oc12 kV12 dc12 pm12 cd12 ct12 oc13 kV13 dc13 pm13 cd13 ct13 oc14 kV14 dc14 pm14 cd14 ct14 oc15 kV15 dc15 pm15 cd15 ct15 oc16 kV16 dc16 pm16 cd16 ct16 oc17 kV17 dc17 pm17 cd17 ct17 oc18 kV18 dc18 pm18 cd18 ct18 oc19 kV19 dc19 pm19 cd19 ct19 oc20 kV20 dc20 pm20 cd20 ct20 oc21 kV21 dc21 pm21 cd21 ct21 oc22 kV22 dc22 pm22 cd22 ct22 : Value}
    (a1 : PySem.W.nsIn K mainGlobals "is_whole" = some (some (.ref f1))) (l1 : K.lookup f1 = some ⟨oc1, od1, .func (PySem.W.fnOf "is_whole" "is_whole" (defArgs sWholeX) (defBody sWholeX) (defScope sWholeX) .none kV1 dc1 pm1 an1 cd1 ct1), sl1⟩) (c1 : PySem.W.codeIn K cd1 "is_whole" = true) (k1 : PySem.W.keepIn K (.ref f1) = true)
    (a2 : PySem.W.nsIn K mainGlobals "is_base" = some (some (.ref f2))) (l2 : K.lookup f2 = some ⟨oc2, od2, .func (PySem.W.fnOf "is_base" "is_base" (defArgs sBaseX) (defBody sBaseX) (defScope sBaseX) .none kV2 dc2 pm2 an2 cd2 ct2), sl2⟩) (c2 : PySem.W.codeIn K cd2 "is_base" = true) (k2 : PySem.W.keepIn K (.ref f2) = true)
    (a3 : PySem.W.nsIn K mainGlobals "is_name" = some (some (.ref f3))) (l3 : K.lookup f3 = some ⟨oc3, od3, .func (PySem.W.fnOf "is_name" "is_name" (defArgs sNameX) (defBody sNameX) (defScope sNameX) .none kV3 dc3 pm3 an3 cd3 ct3), sl3⟩) (c3 : PySem.W.codeIn K cd3 "is_name" = true) (k3 : PySem.W.keepIn K (.ref f3) = true)
    (a4 : PySem.W.nsIn K mainGlobals "has_named_rows" = some (some (.ref f4))) (l4 : K.lookup f4 = some ⟨oc4, od4, .func (PySem.W.fnOf "has_named_rows" "has_named_rows" (defArgs sNamedX) (defBody sNamedX) (defScope sNamedX) .none kV4 dc4 pm4 an4 cd4 ct4), sl4⟩) (c4 : PySem.W.codeIn K cd4 "has_named_rows" = true) (k4 : PySem.W.keepIn K (.ref f4) = true)
    (a5 : PySem.W.nsIn K mainGlobals "is_rising" = some (some (.ref f5))) (l5 : K.lookup f5 = some ⟨oc5, od5, .func (PySem.W.fnOf "is_rising" "is_rising" (defArgs sRisX) (defBody sRisX) (defScope sRisX) .none kV5 dc5 pm5 an5 cd5 ct5), sl5⟩) (c5 : PySem.W.codeIn K cd5 "is_rising" = true) (k5 : PySem.W.keepIn K (.ref f5) = true)
    (a6 : PySem.W.nsIn K mainGlobals "is_book" = some (some (.ref f6))) (l6 : K.lookup f6 = some ⟨oc6, od6, .func (PySem.W.fnOf "is_book" "is_book" (defArgs sIsBookX) (defBody sIsBookX) (defScope sIsBookX) .none kV6 dc6 pm6 an6 cd6 ct6), sl6⟩) (c6 : PySem.W.codeIn K cd6 "is_book" = true) (k6 : PySem.W.keepIn K (.ref f6) = true)
    (a7 : PySem.W.nsIn K mainGlobals "_is_row" = some (some (.ref f7))) (l7 : K.lookup f7 = some ⟨oc7, od7, .func (PySem.W.fnOf "_is_row" "_is_row" (defArgs sIsRowX) (defBody sIsRowX) (defScope sIsRowX) .none kV7 dc7 pm7 an7 cd7 ct7), sl7⟩) (c7 : PySem.W.codeIn K cd7 "_is_row" = true) (k7 : PySem.W.keepIn K (.ref f7) = true)
    (a8 : PySem.W.nsIn K mainGlobals "_is_pair" = some (some (.ref f8))) (l8 : K.lookup f8 = some ⟨oc8, od8, .func (PySem.W.fnOf "_is_pair" "_is_pair" (defArgs sIsPairX) (defBody sIsPairX) (defScope sIsPairX) .none kV8 dc8 pm8 an8 cd8 ct8), sl8⟩) (c8 : PySem.W.codeIn K cd8 "_is_pair" = true) (k8 : PySem.W.keepIn K (.ref f8) = true)
    (a9 : PySem.W.nsIn K mainGlobals "_law_spread" = some (some (.ref f9))) (l9 : K.lookup f9 = some ⟨oc9, od9, .func (PySem.W.fnOf "_law_spread" "_law_spread" (defArgs sSpread) (defBody sSpread) (defScope sSpread) .none kV9 dc9 pm9 an9 cd9 ct9), sl9⟩) (c9 : PySem.W.codeIn K cd9 "_law_spread" = true) (k9 : PySem.W.keepIn K (.ref f9) = true)
    (a10 : PySem.W.nsIn K mainGlobals "_law_open" = some (some (.ref f10))) (l10 : K.lookup f10 = some ⟨oc10, od10, .func (PySem.W.fnOf "_law_open" "_law_open" (defArgs sOpen) (defBody sOpen) (defScope sOpen) .none kV10 dc10 pm10 an10 cd10 ct10), sl10⟩) (c10 : PySem.W.codeIn K cd10 "_law_open" = true) (k10 : PySem.W.keepIn K (.ref f10) = true)
    (a11 : PySem.W.nsIn K mainGlobals "_law_take" = some (some (.ref f11))) (l11 : K.lookup f11 = some ⟨oc11, od11, .func (PySem.W.fnOf "_law_take" "_law_take" (defArgs sTake) (defBody sTake) (defScope sTake) .none kV11 dc11 pm11 an11 cd11 ct11), sl11⟩) (c11 : PySem.W.codeIn K cd11 "_law_take" = true) (k11 : PySem.W.keepIn K (.ref f11) = true)
    (a12 : PySem.W.nsIn K mainGlobals "_law_names" = some (some (.ref f12))) (l12 : K.lookup f12 = some ⟨oc12, od12, .func (PySem.W.fnOf "_law_names" "_law_names" (defArgs sNames) (defBody sNames) (defScope sNames) .none kV12 dc12 pm12 an12 cd12 ct12), sl12⟩) (c12 : PySem.W.codeIn K cd12 "_law_names" = true) (k12 : PySem.W.keepIn K (.ref f12) = true)
    (a13 : PySem.W.nsIn K mainGlobals "_law_row" = some (some (.ref f13))) (l13 : K.lookup f13 = some ⟨oc13, od13, .func (PySem.W.fnOf "_law_row" "_law_row" (defArgs sRow) (defBody sRow) (defScope sRow) .none kV13 dc13 pm13 an13 cd13 ct13), sl13⟩) (c13 : PySem.W.codeIn K cd13 "_law_row" = true) (k13 : PySem.W.keepIn K (.ref f13) = true)
    (a14 : PySem.W.nsIn K mainGlobals "_law_book" = some (some (.ref f14))) (l14 : K.lookup f14 = some ⟨oc14, od14, .func (PySem.W.fnOf "_law_book" "_law_book" (defArgs sBook) (defBody sBook) (defScope sBook) .none kV14 dc14 pm14 an14 cd14 ct14), sl14⟩) (c14 : PySem.W.codeIn K cd14 "_law_book" = true) (k14 : PySem.W.keepIn K (.ref f14) = true)
    (a15 : PySem.W.nsIn K mainGlobals "_law_is_name" = some (some (.ref f15))) (l15 : K.lookup f15 = some ⟨oc15, od15, .func (PySem.W.fnOf "_law_is_name" "_law_is_name" (defArgs sLName) (defBody sLName) (defScope sLName) .none kV15 dc15 pm15 an15 cd15 ct15), sl15⟩) (c15 : PySem.W.codeIn K cd15 "_law_is_name" = true) (k15 : PySem.W.keepIn K (.ref f15) = true)
    (a16 : PySem.W.nsIn K mainGlobals "_law_is_whole" = some (some (.ref f16))) (l16 : K.lookup f16 = some ⟨oc16, od16, .func (PySem.W.fnOf "_law_is_whole" "_law_is_whole" (defArgs sLWhole) (defBody sLWhole) (defScope sLWhole) .none kV16 dc16 pm16 an16 cd16 ct16), sl16⟩) (c16 : PySem.W.codeIn K cd16 "_law_is_whole" = true) (k16 : PySem.W.keepIn K (.ref f16) = true)
    (a17 : PySem.W.nsIn K mainGlobals "_law_is_row" = some (some (.ref f17))) (l17 : K.lookup f17 = some ⟨oc17, od17, .func (PySem.W.fnOf "_law_is_row" "_law_is_row" (defArgs sLRow) (defBody sLRow) (defScope sLRow) .none kV17 dc17 pm17 an17 cd17 ct17), sl17⟩) (c17 : PySem.W.codeIn K cd17 "_law_is_row" = true) (k17 : PySem.W.keepIn K (.ref f17) = true)
    (a18 : PySem.W.nsIn K mainGlobals "_law_is_book" = some (some (.ref f18))) (l18 : K.lookup f18 = some ⟨oc18, od18, .func (PySem.W.fnOf "_law_is_book" "_law_is_book" (defArgs sLBook) (defBody sLBook) (defScope sLBook) .none kV18 dc18 pm18 an18 cd18 ct18), sl18⟩) (c18 : PySem.W.codeIn K cd18 "_law_is_book" = true) (k18 : PySem.W.keepIn K (.ref f18) = true)
    (a19 : PySem.W.nsIn K mainGlobals "_law_odd" = some (some (.ref f19))) (l19 : K.lookup f19 = some ⟨oc19, od19, .func (PySem.W.fnOf "_law_odd" "_law_odd" (defArgs sOddW) (defBody sOddW) (defScope sOddW) .none kV19 dc19 pm19 an19 cd19 ct19), sl19⟩) (c19 : PySem.W.codeIn K cd19 "_law_odd" = true) (k19 : PySem.W.keepIn K (.ref f19) = true)
    (a20 : PySem.W.nsIn K mainGlobals "_law_bent_row" = some (some (.ref f20))) (l20 : K.lookup f20 = some ⟨oc20, od20, .func (PySem.W.fnOf "_law_bent_row" "_law_bent_row" (defArgs sBRow) (defBody sBRow) (defScope sBRow) .none kV20 dc20 pm20 an20 cd20 ct20), sl20⟩) (c20 : PySem.W.codeIn K cd20 "_law_bent_row" = true) (k20 : PySem.W.keepIn K (.ref f20) = true)
    (a21 : PySem.W.nsIn K mainGlobals "_law_bent" = some (some (.ref f21))) (l21 : K.lookup f21 = some ⟨oc21, od21, .func (PySem.W.fnOf "_law_bent" "_law_bent" (defArgs sBentB) (defBody sBentB) (defScope sBentB) .none kV21 dc21 pm21 an21 cd21 ct21), sl21⟩) (c21 : PySem.W.codeIn K cd21 "_law_bent" = true) (k21 : PySem.W.keepIn K (.ref f21) = true)
    (a22 : PySem.W.nsIn K mainGlobals "law" = some (some (.ref f22))) (l22 : K.lookup f22 = some ⟨oc22, od22, .func (PySem.W.fnOf "law" "law" (defArgs sLawB) (defBody sLawB) (defScope sLawB) .none kV22 dc22 pm22 an22 cd22 ct22), sl22⟩) (c22 : PySem.W.codeIn K cd22 "law" = true) (k22 : PySem.W.keepIn K (.ref f22) = true)
    (z_isinstance : PySem.W.nsIn K mainGlobals "isinstance" = some none)
    (z_len : PySem.W.nsIn K mainGlobals "len" = some none)
    (z_int : PySem.W.nsIn K mainGlobals "int" = some none)
    (z_bool : PySem.W.nsIn K mainGlobals "bool" = some none)
    (z_str : PySem.W.nsIn K mainGlobals "str" = some none)
    (z_tuple : PySem.W.nsIn K mainGlobals "tuple" = some none)
    (z_list : PySem.W.nsIn K mainGlobals "list" = some none)
    (z_dict : PySem.W.nsIn K mainGlobals "dict" = some none)
    (z_all : PySem.W.nsIn K mainGlobals "all" = some none)
    (z_zip : PySem.W.nsIn K mainGlobals "zip" = some none)
    (z_range : PySem.W.nsIn K mainGlobals "range" = some none)
    (z_sorted : PySem.W.nsIn K mainGlobals "sorted" = some none)
    (z_enumerate : PySem.W.nsIn K mainGlobals "enumerate" = some none)
    (z_repr : PySem.W.nsIn K mainGlobals "repr" = some none)
    : ∃ fd : FuncData, (∀ (s : Shared) (v : Value), BindsTo s fd ⟨[v], []⟩ [("script", v)]) ∧ ∀ base : Heap, K.In base → base.Ns mainGlobals mg → AtTop l.prog w K mg base fa fd ["script"] (spLaw K) := by
  have e := hfa.symm.trans (PySem.W.mg_of X G a22)
  cases e
  have F1 := fun_mk (st := sWholeX) l1 c1 k1; have g1 := PySem.W.mg_of X G a1
  have F2 := fun_mk (st := sBaseX) l2 c2 k2; have g2 := PySem.W.mg_of X G a2
  have F3 := fun_mk (st := sNameX) l3 c3 k3; have g3 := PySem.W.mg_of X G a3
  have F4 := fun_mk (st := sNamedX) l4 c4 k4; have g4 := PySem.W.mg_of X G a4
  have F5 := fun_mk (st := sRisX) l5 c5 k5; have g5 := PySem.W.mg_of X G a5
  have F6 := fun_mk (st := sIsBookX) l6 c6 k6; have g6 := PySem.W.mg_of X G a6
  have F7 := fun_mk (st := sIsRowX) l7 c7 k7; have g7 := PySem.W.mg_of X G a7
  have F8 := fun_mk (st := sIsPairX) l8 c8 k8; have g8 := PySem.W.mg_of X G a8
  have F9 := fun_mk (st := sSpread) l9 c9 k9; have g9 := PySem.W.mg_of X G a9
  have F10 := fun_mk (st := sOpen) l10 c10 k10; have g10 := PySem.W.mg_of X G a10
  have F11 := fun_mk (st := sTake) l11 c11 k11; have g11 := PySem.W.mg_of X G a11
  have F12 := fun_mk (st := sNames) l12 c12 k12; have g12 := PySem.W.mg_of X G a12
  have F13 := fun_mk (st := sRow) l13 c13 k13; have g13 := PySem.W.mg_of X G a13
  have F14 := fun_mk (st := sBook) l14 c14 k14; have g14 := PySem.W.mg_of X G a14
  have F15 := fun_mk (st := sLName) l15 c15 k15; have g15 := PySem.W.mg_of X G a15
  have F16 := fun_mk (st := sLWhole) l16 c16 k16; have g16 := PySem.W.mg_of X G a16
  have F17 := fun_mk (st := sLRow) l17 c17 k17; have g17 := PySem.W.mg_of X G a17
  have F18 := fun_mk (st := sLBook) l18 c18 k18; have g18 := PySem.W.mg_of X G a18
  have F19 := fun_mk (st := sOddW) l19 c19 k19; have g19 := PySem.W.mg_of X G a19
  have F20 := fun_mk (st := sBRow) l20 c20 k20; have g20 := PySem.W.mg_of X G a20
  have F21 := fun_mk (st := sBentB) l21 c21 k21; have g21 := PySem.W.mg_of X G a21
  have F22 := fun_mk (st := sLawB) l22 c22 k22; have g22 := PySem.W.mg_of X G a22
  have m_isinstance := PySem.W.mg_none_of X G z_isinstance
  have m_len := PySem.W.mg_none_of X G z_len
  have m_int := PySem.W.mg_none_of X G z_int
  have m_bool := PySem.W.mg_none_of X G z_bool
  have m_str := PySem.W.mg_none_of X G z_str
  have m_tuple := PySem.W.mg_none_of X G z_tuple
  have m_list := PySem.W.mg_none_of X G z_list
  have m_dict := PySem.W.mg_none_of X G z_dict
  have m_all := PySem.W.mg_none_of X G z_all
  have m_zip := PySem.W.mg_none_of X G z_zip
  have m_range := PySem.W.mg_none_of X G z_range
  have m_sorted := PySem.W.mg_none_of X G z_sorted
  have m_enumerate := PySem.W.mg_none_of X G z_enumerate
  have m_repr := PySem.W.mg_none_of X G z_repr
  have b1 := F1.binds (ps := ["thing"]) fun _ _ _ _ _ _ us hl => match us, hl with | [_], _ => rfl
  have b2 := F2.binds (ps := ["thing"]) fun _ _ _ _ _ _ us hl => match us, hl with | [_], _ => rfl
  have b3 := F3.binds (ps := ["thing"]) fun _ _ _ _ _ _ us hl => match us, hl with | [_], _ => rfl
  have b4 := F4.binds (ps := ["thing"]) fun _ _ _ _ _ _ us hl => match us, hl with | [_], _ => rfl
  have b5 := F5.binds (ps := ["row"]) fun _ _ _ _ _ _ us hl => match us, hl with | [_], _ => rfl
  have b6 := F6.binds (ps := ["thing"]) fun _ _ _ _ _ _ us hl => match us, hl with | [_], _ => rfl
  have b7 := F7.binds (ps := ["book", "row"]) fun _ _ _ _ _ _ us hl => match us, hl with | [_, _], _ => rfl
  have b8 := F8.binds (ps := ["book", "thing"]) fun _ _ _ _ _ _ us hl => match us, hl with | [_, _], _ => rfl
  have b9 := F9.binds (ps := ["cell", "at"]) fun _ _ _ _ _ _ us hl => match us, hl with | [_, _], _ => rfl
  have b10 := F10.binds (ps := ["script"]) fun _ _ _ _ _ _ us hl => match us, hl with | [_], _ => rfl
  have b11 := F11.binds (ps := ["pen", "many"]) fun _ _ _ _ _ _ us hl => match us, hl with | [_, _], _ => rfl
  have b12 := F12.binds (ps := ["pen", "many"]) fun _ _ _ _ _ _ us hl => match us, hl with | [_, _], _ => rfl
  have b13 := F13.binds (ps := ["pen", "base", "names", "most"]) fun _ _ _ _ _ _ us hl => match us, hl with | [_, _, _, _], _ => rfl
  have b14 := F14.binds (ps := ["pen", "base", "names", "most"]) fun _ _ _ _ _ _ us hl => match us, hl with | [_, _, _, _], _ => rfl
  have b15 := F15.binds (ps := ["thing"]) fun _ _ _ _ _ _ us hl => match us, hl with | [_], _ => rfl
  have b16 := F16.binds (ps := ["thing", "low", "high"]) fun _ _ _ _ _ _ us hl => match us, hl with | [_, _, _], _ => rfl
  have b17 := F17.binds (ps := ["base", "names", "row"]) fun _ _ _ _ _ _ us hl => match us, hl with | [_, _, _], _ => rfl
  have b18 := F18.binds (ps := ["thing"]) fun _ _ _ _ _ _ us hl => match us, hl with | [_], _ => rfl
  have b19 := F19.binds (ps := ["pen"]) fun _ _ _ _ _ _ us hl => match us, hl with | [_], _ => rfl
  have b20 := F20.binds (ps := ["pen", "base", "row", "names"]) fun _ _ _ _ _ _ us hl => match us, hl with | [_, _, _, _], _ => rfl
  have b21 := F21.binds (ps := ["pen", "book"]) fun _ _ _ _ _ _ us hl => match us, hl with | [_, _], _ => rfl
  have T : TxP mg := ⟨m_isinstance, m_len, m_int, m_bool, m_tuple, m_str, m_dict, m_all, m_zip, m_list, m_range⟩
  refine ⟨PySem.W.fnOf "law" "law" (defArgs sLawB) (defBody sLawB) (defScope sLawB) .none kV22 dc22 pm22 an22 cd22 ct22, fun s v => .of_eq rfl, fun base _ _ => ?_⟩
  have GT := ok_takeC (P := l.prog) (w := w) (base := base) F11 m_len F9 b9 g9
  have GNm := ok_names (P := l.prog) (w := w) (base := base) F12 ⟨m_len, m_range⟩ F11 GT b11 g11
  have GRw := ok_row (P := l.prog) (w := w) (base := base) F13 ⟨m_len, m_range, m_tuple, m_sorted⟩ F11 GT b11 g11
  have GBk := ok_book (P := l.prog) (w := w) (base := base) F14 ⟨m_len, m_range, m_tuple, m_sorted, m_dict⟩ F11 GT b11 g11 F13 GRw b13 g13
  have GO := ok_oddW (P := l.prog) (w := w) (base := base) F19 F11 GT b11 g11
  have GBr := ok_brow (P := l.prog) (w := w) (base := base) F20 ⟨m_len, m_range, m_tuple, m_sorted, m_dict, m_list⟩ F11 GT b11 g11 F19 GO b19 g19
  have GBt := ok_bentb (P := l.prog) (w := w) (base := base) F21 ⟨m_len, m_range, m_dict, m_list, m_isinstance⟩ F11 GT b11 g11 F19 GO b19 g19 F20 GBr b20 g20
  have GNm2 := ok_namedX (P := l.prog) (w := w) (base := base) F4 T F1 b1 g1 F2 b2 g2 F3 b3 g3
  have GPr := ok_ispairX (P := l.prog) (w := w) (base := base) F8 T F1 b1 g1
  have GIr := ok_isrowX (P := l.prog) (w := w) (base := base) F7 T F8 GPr b8 g8 F5 b5 g5
  have GIb := ok_isbookX (P := l.prog) (w := w) (base := base) F6 T F4 GNm2 b4 g4 F7 GIr b7 g7
  have GLb := ok_lbook (P := l.prog) (w := w) (base := base) F18 T F16 b16 g16 F15 b15 g15 F17 b17 g17
  exact ok_law F22 ⟨m_range, m_list, m_repr, m_len, m_int, m_dict⟩ F10 (ok_open F10 m_list m_enumerate) b10 g10 F11 GT b11 g11 F12 GNm b12 g12 F14 GBk b14 g14 F21 GBt b21 g21 F6 GIb b6 g6 F18 GLb b18 g18
end My
open PySem PySem.W PyProof.Rows
set_option maxRecDepth 100000 in
set_option maxHeartbeats 0 in
theorem PySem.Challenge.cw_dustwithin_k03_books_of_anything_holds : PySem.Challenge.rw_dustwithin_k03_books_of_anything.Holds := by
  w_on; o_law; k_head; (case hw => w_witness2)
  k_fill
  refine My.walk_top (l := PySem.Challenge.rw_dustwithin_k03_books_of_anything) (n := 63) (x := "script") (sp := fun w => My.spLaw _) rfl (by decide) rfl (fun w h Y => PySem.W.kIn_of Y) ?F (fun _ _ a ns hl _ hS => ⟨a, ns, rfl, hS, hl, fun _ => rfl⟩)
  case F =>
    intro w mg fa h KX G hmg
    refine' My.all_mk KX G hmg ?a1 ?l1 ?c1 ?k1 ?a2 ?l2 ?c2 ?k2 ?a3 ?l3 ?c3 ?k3 ?a4 ?l4 ?c4 ?k4 ?a5 ?l5 ?c5 ?k5 ?a6 ?l6 ?c6 ?k6 ?a7 ?l7 ?c7 ?k7 ?a8 ?l8 ?c8 ?k8 ?a9 ?l9 ?c9 ?k9 ?a10 ?l10 ?c10 ?k10 ?a11 ?l11 ?c11 ?k11 ?a12 ?l12 ?c12 ?k12 ?a13 ?l13 ?c13 ?k13 ?a14 ?l14 ?c14 ?k14 ?a15 ?l15 ?c15 ?k15 ?a16 ?l16 ?c16 ?k16 ?a17 ?l17 ?c17 ?k17 ?a18 ?l18 ?c18 ?k18 ?a19 ?l19 ?c19 ?k19 ?a20 ?l20 ?c20 ?k20 ?a21 ?l21 ?c21 ?k21 ?a22 ?l22 ?c22 ?k22 ?z_isinstance ?z_len ?z_int ?z_bool ?z_str ?z_tuple ?z_list ?z_dict ?z_all ?z_zip ?z_range ?z_sorted ?z_enumerate ?z_repr
    (case a1 => k_is); (case l1 => k_is); (case c1 => k_is); (case k1 => k_is); (case a2 => k_is); (case l2 => k_is)
    (case c2 => k_is); (case k2 => k_is); (case a3 => k_is); (case l3 => k_is); (case c3 => k_is); (case k3 => k_is)
    (case a4 => k_is); (case l4 => k_is); (case c4 => k_is); (case k4 => k_is); (case a5 => k_is); (case l5 => k_is)
    (case c5 => k_is); (case k5 => k_is); (case a6 => k_is); (case l6 => k_is); (case c6 => k_is); (case k6 => k_is)
    (case a7 => k_is); (case l7 => k_is); (case c7 => k_is); (case k7 => k_is); (case a8 => k_is); (case l8 => k_is)
    (case c8 => k_is); (case k8 => k_is); (case a9 => k_is); (case l9 => k_is); (case c9 => k_is); (case k9 => k_is)
    (case a10 => k_is); (case l10 => k_is); (case c10 => k_is); (case k10 => k_is); (case a11 => k_is); (case l11 => k_is)
    (case c11 => k_is); (case k11 => k_is); (case a12 => k_is); (case l12 => k_is); (case c12 => k_is); (case k12 => k_is)
    (case a13 => k_is); (case l13 => k_is); (case c13 => k_is); (case k13 => k_is); (case a14 => k_is); (case l14 => k_is)
    (case c14 => k_is); (case k14 => k_is); (case a15 => k_is); (case l15 => k_is); (case c15 => k_is); (case k15 => k_is)
    (case a16 => k_is); (case l16 => k_is); (case c16 => k_is); (case k16 => k_is); (case a17 => k_is); (case l17 => k_is)
    (case c17 => k_is); (case k17 => k_is); (case a18 => k_is); (case l18 => k_is); (case c18 => k_is); (case k18 => k_is)
    (case a19 => k_is); (case l19 => k_is); (case c19 => k_is); (case k19 => k_is); (case a20 => k_is); (case l20 => k_is)
    (case c20 => k_is); (case k20 => k_is); (case a21 => k_is); (case l21 => k_is); (case c21 => k_is); (case k21 => k_is)
    (case a22 => k_is); (case l22 => k_is); (case c22 => k_is); (case k22 => k_is); (case z_isinstance => k_is); (case z_len => k_is)
    (case z_int => k_is); (case z_bool => k_is); (case z_str => k_is); (case z_tuple => k_is); (case z_list => k_is); (case z_dict => k_is)
    (case z_all => k_is); (case z_zip => k_is); (case z_range => k_is); (case z_sorted => k_is); (case z_enumerate => k_is); (case z_repr => k_is)
